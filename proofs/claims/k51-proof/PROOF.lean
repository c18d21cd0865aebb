import PyProof.Rows.All
import Wide.All
import OpenK.AllK
import Wide.FinOn
import HandS.ForMost
import HandS.ForExc
import HandS.IsInst
import HandS.EndBits
import HandS.Wide
import PyProof.ReprRoads
import HandS.AnyAll
import HandS.GenList
import HandS.TupAny
import HandS.More
import HandS.DictTup
import HandS.SortRule
import PyProof.NeKinds
import HandS.Style
import HandS.Defaults
import HandS.FStrTup
import HandS.StrMore
import HandS.Words
import HandS.Deep
import HandS.Iter
import HandS.Comp
import HandS.ExcInit
import HandS.ExcSuper
import HandS.ExcIs
import HandS.TryMany
import HandS.MakeKw
import KE.KExcInit
import KE.KExcIs
import HandS.ExcField
import HandS.WordsExc
import HandS.HotCalls
import HandS.Text
import HandS.RaiseMore
import PySem.Challenge.RW_narrowplay_k51_depths_bound_all_standing
import HandS.NoneIn
import HandS.Codes
import PyProof.Rows.StrCase
import HandS.JoinGen
import HandS.HeadHook3
import HandS.Zip
import HandS.SortInts
import HandS.TupMul
import KE.GoesZip
import KE.GoesMore
import PyProof.StrOps2
import HandS.Replace
import PyProof.ListStr
import PyProof.Rows.StrPadFill
import PyProof.Rows.StrLawsPart
import PyProof.CollectStr
import HandS.ExcValue
import PyProof.Rows.StrRev
import PyProof.Rows.StrStep
import HandS.Set
import HandS.SetFor
import HandS.SetTxt0
import KE.KDictPairs
import HandS.WideBits
import KE.KNestM
set_option Elab.async false
set_option linter.all false
set_option maxRecDepth 100000
set_option maxHeartbeats 2000000
/-! Z0: data values of any depth as they stand in the abstract heap, and repr of them. -/
namespace Zk
open PySem PySem.Spec PyProof.Rows L2

def keyD : Key → PyData
  | .inl i => .int i
  | .inr x => .str x

mutual
/-- v is, in H, the data d -/
inductive Sd (H : Hp) : V → PyData → Prop
  | non : Sd H .non .none
  | bl (b : Bool) : Sd H (.bl b) (.bool b)
  | int (i : Int) : Sd H (.int i) (.int i)
  | str (x : Str) : Sd H (.str x) (.str x)
  | lst {a : Addr} {xs : List V} {ds : List PyData} : H a = some (.lst xs) → SdL H xs ds → Sd H (.ref a) (.list ds)
  | tup {a : Addr} {xs : List V} {ds : List PyData} : H a = some (.tup xs) → SdL H xs ds → Sd H (.ref a) (.tuple ds)
  | dic {a : Addr} {kvs : List (Key × V)} {es : List (PyData × PyData)} : H a = some (.dK kvs) → SdK H kvs es → Sd H (.ref a) (.dict es)
inductive SdL (H : Hp) : List V → List PyData → Prop
  | nil : SdL H [] []
  | cons {v : V} {vs : List V} {d : PyData} {ds : List PyData} : Sd H v d → SdL H vs ds → SdL H (v :: vs) (d :: ds)
inductive SdK (H : Hp) : List (Key × V) → List (PyData × PyData) → Prop
  | nil : SdK H [] []
  | cons {k : Key} {v : V} {kvs : List (Key × V)} {d : PyData} {es : List (PyData × PyData)} : Sd H v d → SdK H kvs es → SdK H ((k, v) :: kvs) ((keyD k, d) :: es)
end

mutual
theorem Sd.same {H H' : Hp} (e : Same H H') : ∀ {v : V} {d : PyData}, Sd H v d → Sd H' v d
  | _, _, .non => .non
  | _, _, .bl b => .bl b
  | _, _, .int i => .int i
  | _, _, .str x => .str x
  | _, _, .lst h t => .lst (e _ _ h) (SdL.same e t)
  | _, _, .tup h t => .tup (e _ _ h) (SdL.same e t)
  | _, _, .dic h t => .dic (e _ _ h) (SdK.same e t)
theorem SdL.same {H H' : Hp} (e : Same H H') : ∀ {vs : List V} {ds : List PyData}, SdL H vs ds → SdL H' vs ds
  | _, _, .nil => .nil
  | _, _, .cons h t => .cons (Sd.same e h) (SdL.same e t)
theorem SdK.same {H H' : Hp} (e : Same H H') : ∀ {ks : List (Key × V)} {es : List (PyData × PyData)}, SdK H ks es → SdK H' ks es
  | _, _, .nil => .nil
  | _, _, .cons h t => .cons (Sd.same e h) (SdK.same e t)
end
theorem SdL.len {H : Hp} : ∀ {vs : List V} {ds : List PyData}, SdL H vs ds → vs.length = ds.length
  | _, _, .nil => rfl
  | _, _, .cons _ t => congrArg Nat.succ t.len
theorem SdL.app {H : Hp} : ∀ {vs ws : List V} {ds es : List PyData}, SdL H vs ds → SdL H ws es → SdL H (vs ++ ws) (ds ++ es)
  | _, _, _, _, .nil, t => t
  | _, _, _, _, .cons h s, t => .cons h (s.app t)
theorem SdL.get {H : Hp} : ∀ {vs : List V} {ds : List PyData} {i : Nat} {v : V}, SdL H vs ds → vs[i]? = some v → ∃ d, ds[i]? = some d ∧ Sd H v d
  | _, _, _, _, .nil, e => by simp at e
  | _, _, 0, _, .cons h _, e => by
    simp at e
    subst e
    exact ⟨_, rfl, h⟩
  | _, _, i + 1, v, .cons _ t, e => by
    obtain ⟨d, h1, h2⟩ := SdL.get (i := i) (v := v) t (by simpa using e)
    exact ⟨d, by simpa using h1, h2⟩

/-! ### reading it off the real heap -/
/-- the table of modules stood there ahead of all -/
def SysB (base : Heap) : Prop := ∃ ob, base.get? sysModules = some ob
section
variable {X : Cx} {pins : List (Addr × Obj)} {σ : List (Option V)} {H : Hp} {s : Shared}
theorem sys_ne (I : Inv X pins σ H s) (S : SysB X.base) {a : Addr} {o : HO} (h : H a = some o) : sysModules ≠ a := by
  obtain ⟨ob, hb⟩ := S
  intro e
  have q := (I.bs sysModules ob hb).2
  rw [e, h] at q
  cases q
theorem sdk_keys {P : Program} {w : World} {h : Heap} : ∀ {kvs : List (Key × V)} {vs : List (Key × Value)} {es : List DictEntry} {ds : List (PyData × PyData)} {H : Hp},
    KV kvs vs → Pairs (mixKind P w) es vs → SdK H kvs ds → ∃ as, ReadsAll h (es.map (·.key)) (ds.map (·.1)) as ∧ sysModules ∉ as
  | _, _, _, _, _, .nil, .nil, .nil => ⟨[], .nil, by simp⟩
  | (k, v) :: kvs, _, _, _, _, .cons r t, .cons h1 h2 h3, .cons hd tl => by
    obtain ⟨as, q, nq⟩ := sdk_keys t h3 tl
    obtain ⟨e, _⟩ := r
    have e : k = _ := e
    rw [← e] at h1
    rcases keyIs_shape (show keyIs k _ = true from h1) with ⟨i, u, rfl, e2⟩ | ⟨x, u, rfl, e2⟩
    · have z : Reads h (DictEntry.key _) (.int i) [] := e2 ▸ Reads.int i u
      exact ⟨_, .cons z q, by simpa using nq⟩
    · have z : Reads h (DictEntry.key _) (.str x) [] := e2 ▸ Reads.str x u
      exact ⟨_, .cons z q, by simpa using nq⟩
mutual
theorem Sd.reads (I : Inv X pins σ H s) (S : SysB X.base) : ∀ {v : V} {d : PyData} {u : Value}, Sd H v d → RelV v u → ∃ as, Reads s.heap u d as ∧ sysModules ∉ as
  | _, _, _, .non, r => by
    cases r
    exact ⟨_, .none, by simp⟩
  | _, _, _, .bl b, r => by
    cases r
    exact ⟨_, .bool b, by simp⟩
  | _, _, _, .int i, r => by
    obtain ⟨t, rfl⟩ := r
    exact ⟨_, .int i t, by simp⟩
  | _, _, _, .str x, r => by
    obtain ⟨t, rfl⟩ := r
    exact ⟨_, .str x t, by simp⟩
  | _, _, _, .lst h t, r => by
    cases r
    obtain ⟨_, its, n, rv, ho⟩ := I.hok _ _ h
    obtain ⟨as, q, nq⟩ := SdL.reads I S t rv
    refine ⟨_, Reads.list ho rfl rfl (by simpa using q), ?_⟩
    intro m
    rcases List.mem_cons.mp m with m | m
    · exact sys_ne I S h m
    · exact nq m
  | _, _, _, .tup h t, r => by
    cases r
    obtain ⟨_, its, rv, o, ho, hc, n, hd⟩ := I.hok _ _ h
    obtain ⟨as, q, nq⟩ := SdL.reads I S t rv
    exact ⟨_, Reads.tuple ho hc hd (by simpa using q), nq⟩
  | _, _, _, .dic h t, r => by
    cases r
    obtain ⟨_, _, vs, kv, o, es, ep, ho, hx, hd, _, hp, _⟩ := I.hok _ _ h
    obtain ⟨as, q1, n1⟩ := sdk_keys (P := X.prog) (w := X.w) (h := s.heap) kv hp t
    obtain ⟨bs, q2, n2⟩ := SdK.reads I S t kv hp
    refine ⟨_, Reads.dict ho hx.1 hd q1 q2, ?_⟩
    intro m
    rcases List.mem_cons.mp (show sysModules ∈ _ :: (as ++ bs) from by simpa using m) with m | m
    · exact sys_ne I S h m
    · rcases List.mem_append.mp m with m | m
      · exact n1 m
      · exact n2 m
theorem SdL.reads (I : Inv X pins σ H s) (S : SysB X.base) : ∀ {vs : List V} {ds : List PyData} {us : List Value}, SdL H vs ds → Vals vs us → ∃ as, ReadsAll s.heap us ds as ∧ sysModules ∉ as
  | _, _, _, .nil, .nil => ⟨_, .nil, by simp⟩
  | _, _, _, .cons h t, .cons r rs => by
    obtain ⟨as, q, nq⟩ := Sd.reads I S h r
    obtain ⟨bs, q2, nq2⟩ := SdL.reads I S t rs
    refine ⟨_, .cons q q2, fun m => ?_⟩
    rcases List.mem_append.mp m with m | m
    · exact nq m
    · exact nq2 m
theorem SdK.reads (I : Inv X pins σ H s) (S : SysB X.base) : ∀ {kvs : List (Key × V)} {vs : List (Key × Value)} {es : List DictEntry} {ds : List (PyData × PyData)},
    SdK H kvs ds → KV kvs vs → Pairs (mixKind X.prog X.w) es vs → ∃ as, ReadsAll s.heap (es.map (·.val)) (ds.map (·.2)) as ∧ sysModules ∉ as
  | _, _, _, _, .nil, .nil, .nil => ⟨_, .nil, by simp⟩
  | _, _, _, _, .cons h t, .cons r rs, .cons h1 h2 h3 => by
    obtain ⟨_, r2⟩ := r
    obtain ⟨as, q, nq⟩ := Sd.reads I S h r2
    obtain ⟨bs, q2, nq2⟩ := SdK.reads I S t rs h3
    refine ⟨_, .cons (v := _) (by have h2' := h2; show Reads s.heap (DictEntry.val _) _ _; rw [h2']; exact q) q2, fun m => ?_⟩
    rcases List.mem_append.mp m with m | m
    · exact nq m
    · exact nq2 m
end

/-- repr(x), x data -/
def rRepr : List V → Hp → VK → Prop := fun xs H Q => ∃ x d, xs = [x] ∧ Sd H x d ∧ d.showable = true ∧ d.depth ≤ 100 ∧ d.shown.length ≤ sizeLine ∧ Q (.str d.shown) H
theorem call_repr (S : SysB X.base) (hg : X.A.guards = some []) (hu : X.A.units + 110 < cLine) : CallR X (.builtin "repr") rRepr := by
  intro pins s σ H xs us Q I r h
  obtain ⟨x, d, rfl, hd, h1, h2, h3, q⟩ := h
  obtain ⟨u, rfl, ru⟩ := vals1 r
  obtain ⟨as, rd, ns⟩ := hd.reads I S ru
  cases hd with
  | non => cases ru; exact PySem.P.repr_of_none ⟨.str _, H, I.tok _, ⟨_, rfl⟩, q⟩
  | bl b => cases ru; exact PySem.P.repr_of_bool ⟨.str _, H, I.tok _, ⟨_, rfl⟩, q⟩
  | int i =>
    obtain ⟨t, rfl⟩ := ru
    exact PySem.P.repr_of_int (by simpa [PyData.showable] using h1) ⟨.str _, H, I.tok _, ⟨_, rfl⟩, q⟩
  | str y =>
    obtain ⟨t, rfl⟩ := ru
    exact PySem.P.repr_of_str (hsz := by simpa only [PyData.shown] using h3) ⟨.str _, H, I.tok _, ⟨_, rfl⟩, q⟩
  | lst ha ht =>
    cases ru
    exact repr_of_reads' rd h1 (fun _ => ns) hg (by omega) (fun _ _ e => e) (fun h' v tk k => ⟨.str _, H, I.kept (t' := tk) k, ⟨_, rfl⟩, q⟩) h3
  | tup ha ht =>
    cases ru
    exact repr_of_reads' rd h1 (fun _ => ns) hg (by omega) (fun _ _ e => e) (fun h' v tk k => ⟨.str _, H, I.kept (t' := tk) k, ⟨_, rfl⟩, q⟩) h3
  | dic ha ht =>
    cases ru
    exact repr_of_reads' rd h1 (fun _ => ns) hg (by omega) (fun _ _ e => e) (fun h' v tk k => ⟨.str _, H, I.kept (t' := tk) k, ⟨_, rfl⟩, q⟩) h3
end
end Zk

set_option maxHeartbeats 2000000
/-! Z1: the law's own def, run from the top alone (where nothing is being shown), and the end of a law's proof. -/
namespace Zk
open PySem PySem.Spec PyProof.Rows L2

/-- the context in which the law's body runs: called from the top -/
abbrev topX (P : Program) (w : World) (K : PySem.W.Frag) (mg : Str → Option Value) (base : Heap) (N : List Str) (qual : Str) (sc : Scope) (f : Addr) (cdv : Value) (s : Shared) (H : Hp) : Cx :=
  cxOf CX0 P w K mg base N qual sc f cdv callerA [] s H E0
/-- what the def at f keeps when it is called from the top -/
def LawAt (P : Program) (w : World) (K : PySem.W.Frag) (mg : Str → Option Value) (base : Heap) (f : Addr) (fd : FuncData) (ps : List Str) (sp : Sp) : Prop :=
  ∀ (s : Shared) (H : Hp) (args : Args) (us : List Value) (vs : List V) (Q : VK), vs.length = ps.length → Env0 P w K mg base callerA [] s H → BindsTo s fd args (ps.zip us) → Vals vs us → sp vs H Q E0 →
    codeAny (model P w) callerA (.call (.ref f) args) (CR CX0 [] P w H s Q E0) s
section
variable {P : Program} {w : World} {K : PySem.W.Frag} {mg : Str → Option Value} {base : Heap}
theorem law_at {x qual : Str} {st : Stmt} {f : Addr} {fd : FuncData} {N ps : List Str} {sp : Sp} (F : Fun K x qual st f fd) (S : FnScope N ps (defScope st))
    (body : ∀ (cdv : Value) (s : Shared) (H : Hp) (vs : List V) (Q : VK), sp vs H Q E0 →
      ∃ t, PSs (topX P w K mg base N qual (defScope st) f cdv s H).nox (defBody st) t ∧ t { nx := fun _ H' => Q .non H', rt := Q } (start N vs) H) : LawAt P w K mg base f fd ps sp := by
  obtain ⟨_, _, kV, doc, pm, an, cdv, ct, _, rfl, lk, hcd⟩ := F.ex
  intro s H args us vs Q hl e0 hb r hsp
  have there := fun b o e => (e0.bs b o e).1
  have KX : K.In s.heap := e0.mod.kin.keeps there
  have par : ∀ y ∈ ps.zip us, (defScope st).names.lookup y.1 = some .local ∨ ((defScope st).names.lookup y.1 = some .cell ∧ ((cellsFrom (s.heap.objs.size + 1) (defScope st).names []).lookup y.1).isSome = true) := by
    rintro ⟨n, v⟩ hy
    exact (S.par n (List.of_mem_zip hy).1).imp id fun q => ⟨q, PySem.W.cellsFrom_some _ _ _ (.inl q)⟩
  refine codeAny_call_function (by decide) (KX _ _ lk) rfl S.co S.gen rfl (PySem.W.codeRec_of KX hcd) (hb _ _ _ _ (wpAny_newFunctionEnv_cells S.kind par ?_))
  rintro env rfl s1 x
  obtain ⟨t, ht, hq⟩ := body cdv s H vs Q hsp
  have lim : s.heap.NoLimit := e0.mod.nolimit.keeps there
  refine ⟨lim.keeps x.toInCall.keep, codeAny_func (wpAny_mono (ht.nox.run [] s1 (start N vs) H _ (inv_start S rfl e0 hl r x) hq) ?_ fun e s' hs => hs)⟩
  intro fl s' hs
  cases fl with
  | brk => exact (let ⟨_, _, _, q⟩ := hs; False.elim q)
  | cont => exact (let ⟨_, _, _, q⟩ := hs; False.elim q)
  | next =>
    obtain ⟨_, H', J, q⟩ := hs
    exact ⟨.non, H', J.os, J.bare, J.base, J.hok, rfl, q⟩
  | ret u =>
    obtain ⟨v, _, H', J, rv, q⟩ := hs
    exact ⟨v, H', J.os, J.bare, J.base, J.hok, rv, q⟩

/-- the script tracked as known to its object, or one of the written part's own objects: either way the law may be called -/
theorem law_top {mb : Str → Option Value} {fa a : Addr} {fd : FuncData} {x : Str} {sp : Sp} {s : Shared} {vs : List Value} {ns : List Int}
    (KX : K.In s.heap) (hm : s.heap.Ns mainGlobals mg) (hb : s.heap.Ns builtinsNs mb) (hbb : ∀ y : Str, y ≠ "__name__" → mb y = bootBuiltins y) (lim : s.heap.NoLimit) (hg : s.gens = #[])
    (ha : s.heap.get? a = some { cls := .type "list", data := .seq vs.toArray }) (hi : IntsAre vs ns) (hl : ns.length ≤ sizeLine)
    (sys : ∃ mm, s.heap.Ns sysModules mm) (F : ∀ base : Heap, K.In base → base.Ns mainGlobals mg → SysB base → LawAt P w K mg base fa fd [x] sp) (bind : ∀ (s : Shared) (u : Value), BindsTo s fd ⟨[u], []⟩ [(x, u)])
    (hsp : ∀ H : Hp, Only H → SqL K H a (ns.map V.int) → sp [.ref a] H (fun v _ => v = .bl true) E0) :
    codeAny (model P w) callerA (.call (.ref fa) ⟨[.ref a], []⟩) (fun r s' => r = .ok (.ret (.bool true)) ∧ OldK s.heap s'.heap ∧ s'.os = s.os ∧ AllBare s'.gens) s := by
  -- for an abstract heap H that tracks the script at most, and the script only if it is none of the written part's
  have go : ∀ H : Hp, Only H → SqL K H a (ns.map V.int) → HOk P w H s.heap → (∀ b u, H b = some u → b = a ∧ K.lookup a = none) →
      codeAny (model P w) callerA (.call (.ref fa) ⟨[.ref a], []⟩) (fun r s' => r = .ok (.ret (.bool true)) ∧ OldK s.heap s'.heap ∧ s'.os = s.os ∧ AllBare s'.gens) s := by
    intro H only seq hok lone
    have stay : ∀ {b : Addr} {m : Str → Option Value}, s.heap.Ns b m → (hidT s.heap H).Ns b m := by
      rintro b m ⟨o, es, ep, ho, hd, r⟩
      refine ⟨o, es, ep, hidT_get ho ?_, hd, r⟩
      cases q : H b with
      | none => rfl
      | some u =>
        rw [(lone b u q).1, ha] at ho
        cases ho
        cases (show Data.seq vs.toArray _ = Data.dict es ep from hd)
    have kin : K.In (hidT s.heap H) := fun b o hk => by
      refine hidT_get (KX b o hk) ?_
      cases q : H b with
      | none => rfl
      | some u =>
        obtain ⟨e, n⟩ := lone b u q
        rw [e, n] at hk
        cases hk
    have sysB : SysB (hidT s.heap H) := by
      obtain ⟨mm, hmm⟩ := sys
      obtain ⟨ob, _, _, ho, _⟩ := stay hmm
      exact ⟨ob, ho⟩
    have mod : Mod K mg (hidT s.heap H) := ⟨kin, stay hm, ⟨mb, stay hb, hbb⟩, by obtain ⟨mc, h1, h2⟩ := lim; exact ⟨mc, stay h1, h2⟩⟩
    have none0 : ∀ b : Addr, b ∉ frs [] := fun b => List.not_mem_nil
    have e0 : Env0 P w K mg (hidT s.heap H) callerA [] s H := ⟨rfl, mod, fun _ _ => of_hidT, by rw [hidT_size] <;> exact Nat.le_refl _, trivial, fun b hb => absurd hb (none0 b), hok, .of_eq hg⟩
    refine codeAny_mono (F _ kin (stay hm) sysB s H ⟨[.ref a], []⟩ [.ref a] [.ref a] _ rfl e0 (bind _ _) (.cons rfl .nil) (hsp H only seq)) ?_
    intro r s' h
    match r, h with
    | .error e, h => exact False.elim h
    | .ok .next, h => exact False.elim h
    | .ok .brk, h => exact False.elim h
    | .ok .cont, h => exact False.elim h
    | .ok (.ret u), ⟨v, H', os, bare, un, hok', rv, e⟩ =>
      have e : v = .bl true := e
      subst e
      obtain rfl : u = Value.bool true := rv
      refine ⟨rfl, OldK.of_keep fun b o hb => ?_, os, bare⟩
      rcases only b with z | ⟨ob, xs, z⟩
      · exact un.keep b o hb z (none0 b) List.not_mem_nil
      · have h1 := (hok b _ z).1
        rw [hb] at h1
        cases h1
        exact (hok' b _ (un.frzs b _ _ z)).1
  have len := hi.length
  cases hk : K.lookup a with
  | some o =>
    have z := KX a o hk
    rw [ha] at z
    cases z
    refine go (fun _ => none) (fun _ => .inl rfl) (.inr ⟨_, vs.toArray, _, hk, rfl, rfl, rfl, ?_, by simpa using vals_ints hi⟩) (fun _ _ z => nomatch z) fun _ _ z => nomatch z
    simpa [len] using hl
  | none =>
    let T : HO := .frz { cls := .type "list", data := .seq vs.toArray } (.lst (ns.map V.int))
    have at_ : ∀ b u, (fun b => if b = a then some T else none : Hp) b = some u → b = a ∧ u = T := by
      intro b u z
      by_cases e : b = a
      · exact ⟨e, by simpa [e] using z.symm⟩
      · simp [e] at z
    refine go (fun b => if b = a then some T else none) (fun b => ?_) (.inl (.inr ⟨{ cls := .type "list", data := .seq vs.toArray }, if_pos rfl⟩)) (fun b u z => ?_) fun b u z => ⟨(at_ b u z).1, hk⟩
    · by_cases e : b = a
      · exact .inr ⟨_, _, if_pos e⟩
      · exact .inl (if_neg e)
    · obtain ⟨rfl, rfl⟩ := at_ b u z
      exact ⟨ha, by simpa using hl, vs, _, vals_ints hi, ha⟩
end

/-- the end: the law's promise, from the script's ints (at most n of them, each of at most 2 ^ 20 bits) -/
theorem walk_top {l : PySem.W.OpenLaw} {n : Nat} {q : Program} {loose : List Str} {XP : (Str → Option Value) → Heap → Prop} {YP : World → Heap → Prop} {d : DefRec} {K : Params → PySem.W.Frag} {sp : PySem.W.Frag → Sp} {x : Str}
    (hn : l.most = some n) (hn2 : n ≤ sizeLine) (hdf : d.params.defaults = []) (himp : importsNone q = true) (hY : ∀ (w : World) (h : Heap), YP w h → (K w.params).In h)
    (F : ∀ (w : World) (mg : Str → Option Value) (fa : Addr) (h : Heap), (K w.params).In h → h.Ns mainGlobals mg → mg d.name = some (.ref fa) →
      ∃ fd : FuncData, (∀ (s : Shared) (u : Value), BindsTo s fd ⟨[u], []⟩ [(x, u)]) ∧ ∀ base : Heap, (K w.params).In base → base.Ns mainGlobals mg → SysB base → LawAt l.prog w (K w.params) mg base fa fd [x] (sp (K w.params)))
    (hsp : ∀ (K : PySem.W.Frag) (H : Hp) (a : Addr) (ns : List Int), ns.length ≤ n → (∀ z ∈ ns, Builtin.Int.intBits z ≤ 1048576) → SqL K H a (ns.map V.int) → sp K [.ref a] H (fun v _ => v = .bl true) E0) :
    PySem.W.WalkO q loose XP YP l.row.toRowW d [] (fun f vs => PySem.call f vs) := by
  refine Att.attach_callB hn hdf ?_
  intro w _ s mg mb fa _ _ _ _ a vs ns G Y _ _ _ hmg hobj hints hlen hbits hg
  obtain ⟨fd, hb, hF⟩ := F w mg fa _ (hY w _ Y) G.T.g hmg
  exact law_top (hY w _ Y) G.T.g G.T.b G.T.builtins G.T.nolimit hg hobj hints (Nat.le_trans hlen hn2) (let ⟨mm, e, _⟩ := (G.T.seer himp).mods; ⟨mm, e⟩) hF hb fun H _ hS => hsp _ H a ns hlen hbits hS
end Zk

set_option maxHeartbeats 4000000
/-! G0: a generator expression's frame: its context, its start. -/
namespace Zk
open PySem PySem.Spec PyProof.Rows L2 GxR GenW

/-- the context of a generator expression's frame: made at s (of H), its iterator's objects at fp, its generator's object pinned -/
abbrev genX (X : Cx) (A : Around) (s : Shared) (H : Hp) (cenv : Env) (fp : List Addr) (pn : List (Addr × Obj)) : Cx :=
  { X with A := A, s_0 := s, H_0 := H, env := cenv, outer := X.stack, stack := cenv :: X.stack, ex := fp, fn := fun _ => false, calm := true, pn := pn, xe := fun _ _ => False }
structure GxOk (N : List Str) (sc scope : Scope) (own : List (Str × Nat)) : Prop where
  blk : BlkOk N sc scope own
  co : scope.isCoroutine = false
  cell : ∀ y ∈ scope.names, y.2 ≠ .cell
  dot : scope.names.lookup (".0" : Str) = some NameKind.local
theorem inv_gens {X : Cx} {pins : List (Addr × Obj)} {σ : L2.St} {H : Hp} {s s' : Shared} (I : Inv X pins σ H s) (hh : s'.heap = s.heap) (ho : s'.os = s.os) (hb : AllBare s'.gens) : Inv X pins σ H s' := by
  obtain ⟨h', g', d', t', o'⟩ := s'
  have hh : h' = s.heap := hh
  have ho : o' = s.os := ho
  subst hh ho
  exact ⟨I.ok, I.os, hb, I.base, I.loc, I.cell, I.free, I.freeC, I.pin, I.hok, I.len⟩
section
variable {X : Cx} {pins : List (Addr × Obj)} {σ : L2.St} {H : Hp} {s s5 : Shared}
theorem gx_start {scope : Scope} {own : List (Str × Nat)} {fp : List Addr} {cenv : Env} {A : Around} {a : Addr} {go : Obj} {code : Value} {nd : Str → Option Value}
    (I : Inv X pins σ H s) (ok : GxOk X.N X.env.scope scope own) (hN : X.N.Nodup) (hA : A.handled = none) (hfr : A.frames = some (cenv :: X.stack))
    (hcenv : genEnv scope (cloFrom X.env.cells scope.names []) s.heap.objs.size code builtinsNs X.env = cenv)
    (hfp : ∀ b ∈ fp, FpOk X pins H b ∧ b < s.heap.objs.size) (os : s5.os = s.os) (bare : AllBare s5.gens) (kp : ∀ b o, s.heap.get? b = some o → s5.heap.get? b = some o)
    (hn : s5.heap.Ns s.heap.objs.size nd) (ha : s5.heap.get? a = some go) (haC : s.heap.objs.size < a) (hgd : ∀ v, go.data ≠ .cell v) :
    Inv (genX X A s H cenv fp [(a, go)]) [] (wipe σ (own.map (·.2))) H s5 := by
  have hfree : ∀ y ∈ scope.names, y.2 = .free → ∃ c, X.env.cells.lookup y.1 = some c := fun y hy e => by
    rcases ok.blk.free y hy e with k | k
    · exact I.ok.has _ (.inl k)
    · exact I.ok.has _ (.inr k)
  have hL : cenv.locals = s.heap.objs.size := by rw [← hcenv]; rfl
  have hcl : cenv.cells = cloFrom X.env.cells scope.names [] := by rw [← hcenv]; rfl
  have hsc : cenv.scope = scope := by rw [← hcenv]; rfl
  have hff : cenv.frame = some cenv.locals := by rw [← hcenv]; rfl
  have cm : ∀ {y c}, (y, c) ∈ cloFrom X.env.cells scope.names [] → X.env.cells.lookup y = some c ∧ c < s.heap.objs.size := fun {y c} hm => by
    rcases cloFrom_mem hm with hm | ⟨h1, rfl⟩
    · cases hm
    · obtain ⟨c, hc⟩ := hfree _ h1 rfl
      rw [hc]
      obtain ⟨w, z⟩ := I.cell _ _ hc
      exact ⟨rfl, z.lt⟩
  have mem : ∀ {y c}, cenv.cells.lookup y = some c → X.env.cells.lookup y = some c ∧ c < s.heap.objs.size := fun {y c} e => by
    rw [hcl] at e
    exact cm (PySem.mem_of_lookup e)
  have look : ∀ {y}, scope.names.lookup y = some .free → ∃ c, cenv.cells.lookup y = some c ∧ X.env.cells.lookup y = some c := fun {y} hl => by
    obtain ⟨c', e'⟩ := mem_lookup (cloFrom_has (cells := X.env.cells) (acc := []) (PySem.mem_of_lookup hl))
    rw [← hcl] at e'
    exact ⟨c', e', (mem e').1⟩
  have okB : (genX X A s H cenv fp [(a, go)]).Ok := by
    refine ⟨I.ok.mod, by show cenv.scope.kind = _; rw [hsc]; exact ok.blk.kind, by show cenv.globals = _; rw [← hcenv]; exact I.ok.glob, by show cenv.builtins = _; rw [← hcenv]; rfl, by show s.heap.objs.size ≤ cenv.locals; rw [hL]; exact Nat.le_refl _,
      fun y z c e1 e2 => I.ok.inj y z c (mem e1).1 (mem e2).1, fun y hy => ?_, fun y c z e => Bool.noConfusion z, fun _ => hA, hfr, .inr ⟨rfl, hff⟩, fun b hb => ⟨?_, fun y c e z => ?_⟩, I.bs, Nat.le_trans I.ok.bsz I.sz, fun b o e hb => ?_, fun b hb z => ?_, I.stack, I.stkFree⟩
    · have key : ∀ k, scope.names.lookup y = some k → (k = .cell ∨ k = .free) → ∃ c, cenv.cells.lookup y = some c := fun k e hk => by
        rcases hk with rfl | rfl
        · exact absurd rfl (ok.cell _ (PySem.mem_of_lookup e))
        · obtain ⟨c, h1, _⟩ := look e
          exact ⟨c, h1⟩
      have hy : cenv.scope.names.lookup y = some .cell ∨ cenv.scope.names.lookup y = some .free := hy
      rw [hsc] at hy
      rcases hy with hy | hy
      · exact key _ hy (.inl rfl)
      · exact key _ hy (.inr rfl)
    · show b ≠ cenv.locals
      rw [hL]; exact Nat.ne_of_lt (hfp b hb).2
    · exact (hfp b hb).1.2.2.2.2.1 y c (mem e).1 z
    · rcases (hfp b hb).1.2.2.2.1 with z | z
      · exact I.ok.noex b o e z
      · exact absurd (Nat.lt_of_lt_of_le (Heap.lt_size e) (Nat.le_trans I.ok.bsz z)) (Nat.lt_irrefl _)
    · rcases List.mem_cons.mp (I.stkSub b z) with z | z
      · exact (hfp b hb).1.2.1 z
      · exact (hfp b hb).1.2.2.1 z
  have young : ∀ b, s.heap.objs.size ≤ b → b ∉ frs X.stack := fun b hb z => by
    rcases List.mem_cons.mp (I.stkSub b z) with z | z
    · exact absurd (Nat.lt_of_lt_of_le I.lt (by rw [← z]; exact hb)) (Nat.lt_irrefl _)
    · exact I.nofs hb z
  refine ⟨okB, os, bare, Un.kept kp, ⟨nd, ?_, fun i y av e1 e2 e3 => ?_⟩, fun y c e => ?_, ?_, fun y c e => ?_, fun p hp => ?_, I.hok.kept kp, by rw [wipe_length]; exact I.len⟩
  · show s5.heap.Ns cenv.locals _
    rw [hL]
    exact hn
  · obtain ⟨e2, hne⟩ := wipe_some e2
    have e3 : Vis cenv.scope y := e3
    rw [hsc] at e3
    have no : ∀ k, scope.names.lookup y = some k → (k = .local ∨ k = .cell) → False := fun k e hh => by
      rcases ok.blk.own _ (PySem.mem_of_lookup e) hh with e' | e'
      · obtain ⟨p, hp, hpy⟩ := List.mem_map.mp e'
        have e3 := ok.blk.ix p hp
        have : p.1 = y := hpy
        rw [this] at e3
        exact hne (List.mem_map.mpr ⟨p, hp, nodup_ix hN e3 e1⟩)
      · exact e' (List.mem_of_getElem? e1)
    have hfr : scope.names.lookup y = some .free := by
      rcases e3 with e3 | e3 | e3
      · exact (no _ e3 (.inl rfl)).elim
      · exact (no _ e3 (.inr rfl)).elim
      · exact e3
    obtain ⟨m, hn, hl⟩ := I.loc
    have hvis : Vis X.env.scope y := (ok.blk.free _ (PySem.mem_of_lookup hfr) rfl).elim (fun k => .inr (.inl k)) (fun k => .inr (.inr k))
    obtain ⟨w, r, q⟩ := hl i y av e1 e2 hvis
    refine ⟨w, r, .inr ⟨.inr (by show cenv.scope.names.lookup y = _; rw [hsc]; exact hfr), ?_⟩⟩
    obtain ⟨c, h1, h2⟩ := look hfr
    rcases q with ⟨k, _⟩ | ⟨_, c', e', z⟩
    · have k : X.env.scope.names.lookup y = some .local := k
      rcases ok.blk.free _ (PySem.mem_of_lookup hfr) rfl with k' | k' <;> rw [show X.env.scope.names.lookup y = _ from k'] at k <;> cases k
    · rw [h2] at e'; cases e'
      exact ⟨c, h1, z.keeps kp⟩
  · obtain ⟨w, z⟩ := I.cell y c (mem e).1
    exact ⟨w, z.keeps kp⟩
  · show H cenv.locals = none
    rw [hL]; exact I.hok.fresh (Nat.le_refl _)
  · exact I.freeC y c (mem e).1
  · have hp : p ∈ [(a, go)] ++ [] := hp
    rw [List.append_nil] at hp
    rw [List.mem_singleton.mp hp]
    refine ⟨ha, I.hok.fresh (Nat.le_of_lt haC), ?_, young a (Nat.le_of_lt haC), hgd⟩
    show a ≠ cenv.locals
    rw [hL]
    exact Nat.ne_of_gt haC
end
end Zk

set_option maxHeartbeats 4000000
/-! G1: a generator expression runs, turn by turn; all(..) and any(..) over it. -/
namespace Zk
open PySem PySem.Spec PyProof.Rows L2 GxR GenW

/-- what a turn of the walk comes to: kp is what the consumer goes on with -/
def GxTurn (kp : Bool) (J : It) (g : TG) (tt : TT) (te : TE) (vs : List Nat) (σ : L2.St) (Q : VK) (W : Nat → Nat → Hp → Prop) : Prop :=
  ∀ i m H, W i m H → (J.stop i H ∧ Q (.bl kp) H) ∨ (J.go i H ∧ ∃ Nx : Hp → Prop, (∀ H', Nx H' → ∃ m', m' < m ∧ W (i + 1) m' H') ∧
    ∀ x H', J.yld i H x H' → g x (wipe σ vs) H' fun σ2 H2 => wipe σ2 vs = wipe σ vs ∧ tt σ2 H2 fun b H3 =>
      if b = true then te σ2 H3 fun y H4 => ∃ b', y = .bl b' ∧ ((b' = kp ∧ Nx H4) ∨ (b' ≠ kp ∧ Q (.bl b') H4)) else Nx H3)
/-- an item is handed out -/
def GxY (Xg : Cx) (kp : Bool) (fp : List Addr) (tn : Nat → Heap → Prop) (σ0 : L2.St) (Q : VK) (W : Nat → Nat → Hp → Prop) : Protocol := fun n _ v s1 kap =>
  ∃ b H', v = .bool b ∧ Inv Xg [] σ0 H' s1 ∧ ((b = kp ∧ ∃ m i, m < n ∧ W i m H' ∧ tn i s1.heap ∧ (∀ c ∈ fp, H' c = none) ∧ ∀ s'' : Shared, s''.heap = s1.heap → s''.os = s1.os → AllBare s''.gens → kap (.send .none) s'') ∨ (b ≠ kp ∧ Q (.bl b) H'))
def GxF (Xg : Cx) (kp : Bool) (σ0 : L2.St) (Q : VK) (s1 : Shared) : Prop := ∃ H', Inv Xg [] σ0 H' s1 ∧ Q (.bl kp) H'
def GxR (Xg : Cx) (kp : Bool) (σ0 : L2.St) (Q : VK) : GenEnd := fun n _ r s1 => ((r = .ok (.ret .none) ∨ r = .ok .next) ∧ (fun (_ : Nat) (_ : Shared) s1 => GxF Xg kp σ0 Q s1) n s1 s1) ∨ ∃ e, r = .error e ∧ (fun (_ : Value) (_ : Shared) => False) e s1
section
variable {Xg : Cx} {kp : Bool} {fp : List Addr} {tn : Nat → Heap → Prop} {σ : L2.St} {Q : VK} {W : Nat → Nat → Hp → Prop} {J : It} {g : TG} {tt : TT} {te : TE} {vs : List Nat} {it : Addr} {tg elt iter : Expr} {ifs : List Expr} {scope : Scope} {gpos : Pos} {A : Around}
theorem gx_stat {H' : Hp} {s' : Shared} {σ' : L2.St} (hex : Xg.ex = fp) (hpn : ∀ p ∈ Xg.pn, p.1 ∉ fp) (I : Inv Xg [] σ' H' s') (hn : ∀ b ∈ fp, H' b = none) : ∀ b ∈ fp, FpOk Xg [] H' b := fun b hb =>
  ⟨hn b hb, (I.ok.exf b (hex ▸ hb)).1, I.ok.exfs b (hex ▸ hb), .inl (hex ▸ hb), fun x c e => (I.ok.exf b (hex ▸ hb)).2 x c e, fun p hp z => by
    rw [List.append_nil] at hp
    exact hpn p hp (z ▸ hb)⟩
theorem seg_gx (hex : Xg.ex = fp) (hpn : ∀ p ∈ Xg.pn, p.1 ∉ fp) (hxe : Xg.xe = fun _ _ => False) (hc : Xg.calm = true) (hco : Xg.env.scope.isCoroutine = false)
    (hA : A.over (.compLoop (.GeneratorExp elt [⟨tg, iter, ifs, 0⟩] scope gpos) 0 (.ref it) .none Xg.env) [] = Xg.A) (T : Turn Xg.prog Xg.w Xg.K tg J fp it tn)
    (pg : PG Xg tg g) (pt : PTs Xg ifs tt) (pe : PE Xg elt te) (turn : GxTurn kp J g tt te vs σ Q W) :
    ∀ (m n i : Nat) (s₀ s : Shared) (H' : Hp), m < n → Inv Xg [] (wipe σ vs) H' s → tn i s.heap → (∀ b ∈ fp, H' b = none) → W i m H' →
      Seg (model Xg.prog Xg.w) A (GxR Xg kp (wipe σ vs) Q) (GxY Xg kp fp tn (wipe σ vs) Q W) n s₀ (.compLoop (.GeneratorExp elt [⟨tg, iter, ifs, 0⟩] scope gpos) 0 (.ref it) .none Xg.env)
        ((model Xg.prog Xg.w).den (.compLoop (.GeneratorExp elt [⟨tg, iter, ifs, 0⟩] scope gpos) 0 (.ref it) .none Xg.env)) [] s := by
  intro m
  induction m using Nat.strongRecOn with
  | ind m ih =>
    intro n i s₀ s H5 hmn I5 st5 n5 w5
    show Seg _ A _ _ n s₀ _ ((compTurn (.GeneratorExp elt [⟨tg, iter, ifs, 0⟩] scope gpos) 0 (.ref it) .none Xg.env).onRaise (leaving Xg.env)) [] s
    rw [compTurn_gen, Sem.onRaise_eq_wrap]
    refine seg_bind_wrap (wpAny_standAt ?_)
    have noE : ∀ {α : Type} {t : Sem α} {Qa Qb : α → Shared → Prop} {E : Value → Shared → Prop} {s : Shared}, wpAny (model Xg.prog Xg.w) Xg.A t Qa Xg.xe s → (∀ a s, Qa a s → Qb a s) → wpAny (model Xg.prog Xg.w) Xg.A t Qb E s := fun h hq =>
      wpAny_mono h hq fun e s z => by
        rw [hxe] at z
        exact z.elim
    rcases turn i m H5 w5 with ⟨stop, qq⟩ | ⟨go, Nx, hNx, step⟩
    · refine seg_bind_wrap ?_
      rw [hA]
      refine wpAny_mono (T.done Xg rfl rfl rfl hc i [] s _ H5 _ I5 (gx_stat hex hpn I5 n5) st5 stop) (fun r s6 ⟨hr, I6⟩ => ?_) fun _ _ z => z
      subst hr
      exact seg_end (.ok .next) (.inl ⟨.inr rfl, H5, I6, qq⟩)
    · refine seg_bind_wrap ?_
      rw [hA]
      refine wpAny_mono (T.item Xg rfl rfl rfl hc i [] s _ H5 _ I5 (gx_stat hex hpn I5 n5) st5 go) (fun r s6 ⟨u, hr, h6⟩ => ?_) fun _ _ z => z
      subst hr
      refine seg_bind_wrap ?_
      rw [hA]
      refine wpAny_mono h6 (fun _ s7 ⟨x, H7, I7, r7, y7, st7, n7⟩ => ?_) fun _ _ z => z
      have I7' := I7.pinned (gx_stat hex hpn I7 n7) (T.obj _ _ st7)
      refine seg_bind_wrap ?_
      rw [hA]
      refine noE (pg.run _ s7 _ H7 x u _ I7' r7 (step x H7 y7)) fun _ s8 ⟨σ8, H8, I8, hw8, q8⟩ => ?_
      refine seg_bind_wrap ?_
      rw [hA]
      refine noE (pt.run _ s8 σ8 H8 _ I8 q8) fun b s9 ⟨H9, I9, q9⟩ => ?_
      -- the turn's end
      have back : ∀ {s' : Shared} {H' : Hp}, Inv Xg ([] ++ pinsAt fp s7.heap) σ8 H' s' → Inv Xg [] (wipe σ vs) H' s' ∧ tn (i + 1) s'.heap ∧ (∀ b ∈ fp, H' b = none) := fun {s' H'} I' => by
        have pin' : ∀ b ∈ fp, ∀ o, s7.heap.get? b = some o → s'.heap.get? b = some o ∧ H' b = none := fun b hb o e =>
          let z := I'.pin (b, o) (List.mem_append_right _ (List.mem_append_right _ (mem_pinsAt hb e)))
          ⟨z.1, z.2.1⟩
        have hl : (wipe σ vs).length = σ8.length := by rw [← hw8, wipe_length]
        refine ⟨(I'.unpinned (pins := [])).weak hl (fun j v e => ?_), T.keep _ _ _ st7 fun b hb o e => (pin' b hb o e).1, fun b hb => ?_⟩
        · rw [← hw8] at e
          exact (wipe_some e).1
        · obtain ⟨o, e, _⟩ := T.obj _ _ st7 b hb
          exact (pin' b hb o e).2
      cases b with
      | false =>
        simp only [Bool.false_eq_true, if_false] at q9 ⊢
        obtain ⟨J9, t9, z9⟩ := back I9
        obtain ⟨m', hm, w'⟩ := hNx H9 q9
        exact seg_again rfl (ih m' hm n (i + 1) s₀ s9 H9 (by omega) J9 t9 z9 w')
      | true =>
        simp only [if_true] at q9 ⊢
        have hy : ∀ v, yieldOut Xg.env v = yieldValue v := fun v => by simp only [yieldOut, hco, Bool.false_eq_true, if_false]
        simp only [hy]
        rw [Sem.bind_eq_wrap', Sem.bind_eq_wrap', Sem.wrap_wrap, Sem.wrap_wrap]
        refine seg_wrap ?_
        rw [hA]
        refine noE (pe.run _ s9 σ8 H9 _ I9 q9) fun z s10 ⟨yv, H10, I10, r10, b', e', q10⟩ => ?_
        subst e'
        obtain rfl : z = Value.bool b' := r10
        obtain ⟨J10, t10, z10⟩ := back I10
        rcases q10 with ⟨eb, nx⟩ | ⟨eb, q10⟩
        · obtain ⟨m', hm, w'⟩ := hNx H10 nx
          obtain ⟨n', rfl⟩ : ∃ k, n = k + 1 := ⟨n - 1, by omega⟩
          refine seg_at (seg_yield rfl rfl rfl ⟨b', H10, rfl, J10, .inl ⟨eb, m', i + 1, by omega, w', t10, z10, fun s'' hh ho hb => ?_⟩⟩)
          exact seg_again rfl (ih m' hm n' (i + 1) s'' s'' H10 (by omega) (inv_gens J10 hh ho hb) (by rw [hh]; exact t10) z10 w')
        · obtain ⟨n', rfl⟩ : ∃ k, n = k + 1 := ⟨n - 1, by omega⟩
          exact seg_at (seg_yield rfl rfl rfl ⟨b', H10, rfl, J10, .inr ⟨eb, q10⟩⟩)
theorem seg_gxStart (hex : Xg.ex = fp) (hpn : ∀ p ∈ Xg.pn, p.1 ∉ fp) (hxe : Xg.xe = fun _ _ => False) (hc : Xg.calm = true) (hco : Xg.env.scope.isCoroutine = false)
    (hA : ∀ c, c = Code.compLoop (.GeneratorExp elt [⟨tg, iter, ifs, 0⟩] scope gpos) 0 (.ref it) .none Xg.env ∨ c = Code.compStart (.GeneratorExp elt [⟨tg, iter, ifs, 0⟩] scope gpos) 0 (.ref it) .none Xg.env → A.over c [] = Xg.A) (T : Turn Xg.prog Xg.w Xg.K tg J fp it tn)
    (pg : PG Xg tg g) (pt : PTs Xg ifs tt) (pe : PE Xg elt te) (turn : GxTurn kp J g tt te vs σ Q W) (m n i : Nat) (s₀ s : Shared) (H' : Hp) (hmn : m < n) (I : Inv Xg [] (wipe σ vs) H' s) (st : tn i s.heap) (hn : ∀ b ∈ fp, H' b = none) (w0 : W i m H') :
      Seg (model Xg.prog Xg.w) A (GxR Xg kp (wipe σ vs) Q) (GxY Xg kp fp tn (wipe σ vs) Q W) n s₀ (.compStart (.GeneratorExp elt [⟨tg, iter, ifs, 0⟩] scope gpos) 0 (.ref it) .none Xg.env)
        ((model Xg.prog Xg.w).den (.compStart (.GeneratorExp elt [⟨tg, iter, ifs, 0⟩] scope gpos) 0 (.ref it) .none Xg.env)) [] s := by
  have loop := seg_gx (A := A) hex hpn hxe hc hco (hA _ (.inl rfl)) T pg pt pe turn m n i s₀ s H' hmn I st hn w0
  show Seg _ A _ _ n s₀ _ ((compStart (.GeneratorExp elt [⟨tg, iter, ifs, 0⟩] scope gpos) 0 (.ref it) .none Xg.env).onRaise (leaving Xg.env)) [] s
  unfold compStart
  rw [Sem.onRaise_eq_wrap]
  show Seg _ A _ _ n s₀ _ ((ask >>= _).wrap _ _ _ _) [] s
  refine seg_bind_wrap (wpAny_askSetting ?_)
  split
  · exact seg_again rfl loop
  · first
      | exact seg_bind_wrap (wpAny_rule (seg_bind_wrap (wpAny_standAt (seg_bind_wrap (T.self _ i s _ _ st (seg_again rfl loop))))))
      | (refine seg_bind_wrap (wpAny_rule ?_); show Seg _ A _ _ n s₀ _ ((standAt iter.pos >>= _).wrap _ _ _ _) [] s; exact seg_bind_wrap (wpAny_standAt (seg_bind_wrap (T.self _ i s _ _ st (seg_again rfl loop)))))

/-- where the generator stands between two items -/
def GxAt (M : Model) (A : Around) (Xg : Cx) (kp : Bool) (fp : List Addr) (tn : Nat → Heap → Prop) (σ0 : L2.St) (Q : VK) (W : Nat → Nat → Hp → Prop) (a : Addr) (gn n : Nat) (s : Shared) : Prop :=
  s.heap.IsGen a gn ∧ s.heap.NoLimit ∧ ∃ gs, s.gens[gn]? = some gs ∧ gs.Goes M A (GxR Xg kp σ0 Q) (GxY Xg kp fp tn σ0 Q W) n (.send .none) (s.setGen gn .running)
theorem gx_loop {P : Program} {w : World} {A : Around} {R : Result → Shared → Prop} {a : Addr} {gn : Nat} {go : Obj} {σ0 : L2.St} {id : String} (hid : (id = "all.loop" ∧ kp = true) ∨ (id = "any.loop" ∧ kp = false))
    (hP : Xg.prog = P) (hw : Xg.w = w) (hh : A.handled = none) (hd : A.depth < recursionLimit) (hpn : Xg.pn = [(a, go)]) (hgo : ∀ h : Heap, h.get? a = some go → h.IsGen a gn)
    (hend : ∀ b s' H', Inv Xg [] σ0 H' s' → Q (.bl b) H' → R (.ok (.ret (.bool b))) s') :
    ∀ (n : Nat) (s : Shared), GxAt (model P w) A.in1.in1 Xg kp fp tn σ0 Q W a gn n s → codeAny (model P w) A (.builtin id ⟨[.ref a], []⟩) R s := by
  have isG : ∀ {σ' : L2.St} {H' : Hp} {s' : Shared}, Inv Xg [] σ' H' s' → s'.heap.IsGen a gn := fun {σ' H' s'} I => hgo _ (I.pin (a, go) (List.mem_append_left _ (by rw [hpn]; exact List.mem_singleton.mpr rfl))).1
  have goes : ∀ {gs : GenState} {B : Around} {n : Nat} {r : Resume} {s : Shared}, gs.Goes (model P w) B (GxR Xg kp σ0 Q) (GxY Xg kp fp tn σ0 Q W) n r s →
      gs.Goes (model P w) B (fun n s₀ r s1 => ((r = .ok (.ret .none) ∨ r = .ok .next) ∧ (fun (_ : Nat) (_ : Shared) s1 => GxF Xg kp σ0 Q s1) n s₀ s1) ∨ ∃ e, r = .error e ∧ (fun (_ : Value) (_ : Shared) => False) e s1) (GxY Xg kp fp tn σ0 Q W) n r s := fun h => h
  -- one item, for either consumer
  have turn : ∀ (n : Nat) (s : Shared), (∀ m, m < n → ∀ s, GxAt (model P w) A.in1.in1 Xg kp fp tn σ0 Q W a gn m s → codeAny (model P w) A (.builtin id ⟨[.ref a], []⟩) R s) → GxAt (model P w) A.in1.in1 Xg kp fp tn σ0 Q W a gn n s →
      wpAny (model P w) A.in1 (pyNext (.ref a)) (fun r s1 => match r with
        | none => R (.ok (.ret (.bool kp))) s1
        | some v => ∃ b, v = .bool b ∧ if b = kp then codeAny (model P w) A (.builtin id ⟨[.ref a], []⟩) R s1 else R (.ok (.ret (.bool b))) s1) (fun _ _ => False) s := by
    intro n s ih ⟨hg, hl, gs, hgs, hgo'⟩
    have hgl : gn < s.gens.size := (Array.getElem?_eq_some_iff.mp hgs).1
    refine wpAny_mono (wpAny_gsz (n := gn + 1) hgl (next_genG (A := A.in1) (Q := fun r s1 => gn + 1 ≤ s1.gens.size → _) (E := fun _ _ => _) hh hl hd hg hgs (goes hgo') (fun v s₁ gs' hbare hv => ?_) (fun s₁ hp h' hk => ?_) fun e s₁ he => he.elim)) (fun _ _ h => h) fun _ _ h => h
    · intro hsz
      obtain ⟨b, H', rfl, I1, h1⟩ := hv
      refine ⟨b, rfl, ?_⟩
      have bare1 : AllBare (s₁.setGen gn gs').gens := allBare_setGen I1.bare hbare
      have hsz1 : gn < s₁.gens.size := by
        have q : (s₁.setGen gn gs').gens.size = s₁.gens.size := setGen_size _ _ _
        have hsz' : gn + 1 ≤ (s₁.setGen gn gs').gens.size := hsz
        omega
      rcases h1 with ⟨eb, m, i, hmn, w1, t1, z1, kap⟩ | ⟨eb, q⟩
      · rw [if_pos eb]
        cases n with
        | zero => exact absurd hmn (Nat.not_lt_zero _)
        | succ n' =>
          refine ih n' (Nat.lt_succ_self _) _ ⟨(isG I1 : s₁.heap.IsGen a gn), ?_, gs', setGen_at hsz1, ?_⟩
          · exact I1.nolimit
          · exact kap ((s₁.setGen gn gs').setGen gn .running) rfl rfl (allBare_setGen bare1 rfl)
      · rw [if_neg eb]
        exact hend b _ H' (inv_gens I1 rfl rfl bare1) q
    · intro hsz
      obtain ⟨H', I1, q⟩ := hp
      refine hend kp _ H' ?_ q
      have I2 := I1.kept (t' := s₁.toks) hk
      exact inv_gens I2 rfl rfl (allBare_setGen I1.bare rfl)
  intro n
  induction n using Nat.strongRecOn with
  | ind n ih =>
    intro s hs
    have t := turn n s ih hs
    rcases hid with ⟨rfl, rfl⟩ | ⟨rfl, rfl⟩
    · refine codeAny_builtin F.entry_all_loop ?_
      rw [Around.under_plainId F.plain_all_loop _]
      show wpAny _ A.in1 (pyNext (.ref a) >>= _) _ _ s
      refine wpAny_bind (wpAny_mono t (fun r s1 h1 => ?_) fun _ _ z => z.elim)
      cases r with
      | none => exact wpAny_bind (wpAny_rule (wpAny_pure h1))
      | some v =>
        obtain ⟨b, rfl, h1⟩ := h1
        refine wpAny_bind (wpAny_holding (wpAny_truthy_bool ?_))
        refine wpAny_bind (wpAny_letGo ?_)
        cases b with
        | true => exact wpAny_pure ⟨plainId_quiet F.plain_all_loop _, h1⟩
        | false => exact wpAny_bind (wpAny_rule (wpAny_pure h1))
    · refine codeAny_builtin F.entry_any_loop ?_
      rw [Around.under_plainId F.plain_any_loop _]
      show wpAny _ A.in1 (pyNext (.ref a) >>= _) _ _ s
      refine wpAny_bind (wpAny_mono t (fun r s1 h1 => ?_) fun _ _ z => z.elim)
      cases r with
      | none => exact wpAny_bind (wpAny_rule (wpAny_pure h1))
      | some v =>
        obtain ⟨b, rfl, h1⟩ := h1
        refine wpAny_bind (wpAny_holding (wpAny_truthy_bool ?_))
        refine wpAny_bind (wpAny_letGo ?_)
        cases b with
        | false => exact wpAny_pure ⟨plainId_quiet F.plain_any_loop _, h1⟩
        | true => exact wpAny_bind (wpAny_rule (wpAny_pure h1))
end
end Zk

set_option maxHeartbeats 4000000
/-! G2: all(elt for x in xs if ..), any(..): whatever PI walks, whatever a reading tells of the element. -/
namespace Zk
open PySem PySem.Spec PyProof.Rows L2 GxR GenW

/-- the reading of all(..) (kp true), any(..) (kp false) of a generator expression: P the def's table -/
def tGx (kp : Bool) (P : Addr) (wi : TI) (g : TG) (tt : TT) (te : TE) (vs : List Nat) : TE := fun σ H Q => wi σ H fun J H1 => TabG H1 P ∧ ∀ H2, Tabbed P H1 H2 →
  ∃ W : Nat → Nat → Hp → Prop, (∃ m, W 0 m H2) ∧ GxTurn kp J g tt te vs σ Q W
section
variable {X : Cx} {pins : List (Addr × Obj)} {σ : L2.St} {H : Hp} {s : Shared}
theorem roomG {k : Nat} {A : Around} (r : Room (k + 1) A) (env : Env) : Room k (A.in1.in1.deeper env) :=
  ⟨r.hd, by have := r.dp; show A.depth + 1 + 3 * k + 5 < _; omega, by have := r.un; show A.units + 1 + 1 + 3 + 16 * k + 200 < _; omega⟩
/-- what holds of the generator g in the state s5 -/
def GxReady (X : Cx) (pins : List (Addr × Obj)) (σ : L2.St) (kp : Bool) (vs : List Nat) (Q : VK) (g : Addr) (s5 : Shared) : Prop :=
  ∃ (Xg : Cx) (fp : List Addr) (tn : Nat → Heap → Prop) (W : Nat → Nat → Hp → Prop) (gn n : Nat) (go : Obj), Xg.prog = X.prog ∧ Xg.w = X.w ∧ Xg.pn = [(g, go)] ∧ (∀ h : Heap, h.get? g = some go → h.IsGen g gn) ∧
    GxAt (model X.prog X.w) X.A.in1.in1 Xg kp fp tn (wipe σ vs) Q W g gn n s5 ∧ ∀ s' H', Inv Xg [] (wipe σ vs) H' s' → Inv X pins σ H' s'
theorem gx_make {c P : Addr} {tg elt iter : Expr} {ifs : List Expr} {scope : Scope} {gpos : Pos} {own : List (Str × Nat)} {wi : TI} {g : TG} {tt : TT} {te : TE} {k : Nat} {kp : Bool} {Q : VK} {Q' : Value → Shared → Prop}
    (hr : Room (k + 1) X.A) (TB : TabB X.base X.mg c P) (hcode : X.env.code = .ref c) (hN : X.N.Nodup) (ok : GxOk X.N X.env.scope scope own) (hi : PI X tg iter wi)
    (hg : ∀ (A : Around) (s : Shared) (H : Hp) (C : Addr) (cl : List (Str × Addr)) (code : Value) (fp : List Addr) (pn : List (Addr × Obj)), Room k A → PG (genX X A s H (genEnv scope cl C code builtinsNs X.env) fp pn) tg g)
    (ht : ∀ (A : Around) (s : Shared) (H : Hp) (C : Addr) (cl : List (Str × Addr)) (code : Value) (fp : List Addr) (pn : List (Addr × Obj)), Room k A → PTs (genX X A s H (genEnv scope cl C code builtinsNs X.env) fp pn) ifs tt)
    (he : ∀ (A : Around) (s : Shared) (H : Hp) (C : Addr) (cl : List (Str × Addr)) (code : Value) (fp : List Addr) (pn : List (Addr × Obj)), Room k A → PE (genX X A s H (genEnv scope cl C code builtinsNs X.env) fp pn) elt te)
    (hs : ∀ v, genFold iter X.env v = pure v) (I : Inv X pins σ H s) (h : tGx kp P wi g tt te (own.map (·.2)) σ H Q) (hQ : ∀ a s5, GxReady X pins σ kp (own.map (·.2)) Q a s5 → Q' (.ref a) s5) :
    wpAny (model X.prog X.w) X.A (eval (.GeneratorExp elt [⟨tg, iter, ifs, 0⟩] scope gpos) X.env) Q' X.xe s := by
  have hfree : ∀ y ∈ scope.names, y.2 = .free → ∃ c, X.env.cells.lookup y.1 = some c := fun y hy e => by
    rcases ok.blk.free y hy e with k | k
    · exact I.ok.has _ (.inl k)
    · exact I.ok.has _ (.inr k)
  refine wpAny_GeneratorExp_make ok.co (closure_ok hfree) ok.cell ok.dot ok.blk.kind (by have := hr.dp; omega) ?_ hs
  refine thn (hi.run pins s σ H _ I h) fun xv s1 hx => thn hx fun itv s2 h2 => ?_
  obtain ⟨it, fp, tn, J, H1, rfl, I2, T, st2, f2, ⟨ps, hP, ht3⟩, q⟩ := h2
  refine ⟨I2.nolimit, ?_⟩
  have hPs : s2.heap.get? P = some { cls := .none, data := .fields ps } := I2.hok P _ hP
  have cd : PySem.W.CodeHd s2.heap c P := TB.code.keeps fun b u e => I2.bk b u e
  have nfP : ∀ b ∈ fp, b ≠ P := fun b hb z => by
    have := (f2 b hb).1
    rw [z, hP] at this
    cases this
  have szf : ∀ b ∈ fp, b < s2.heap.objs.size := fun b hb => by
    obtain ⟨o, e, _⟩ := T.obj _ _ st2 b hb
    exact Heap.lt_size e
  -- from the state in which the code object is known
  have cont : ∀ (code : Value) (h3 : Heap) (tk : Nat) (more : Array Value), Heap.ExtBut P s2.heap h3 → s2.heap.objs.size ≤ h3.objs.size → h3.get? P = some { cls := .none, data := .fields (ps ++ more) } → TriplesOk (ps ++ more).toList →
      wpAny (model X.prog X.w) X.A (builtinsFor X.env.globals X.env.builtins) (fun bi s₄ => ∀ h', h'.Ns s₄.heap.objs.size (fun y => if y = ".0" then some (.ref it) else none) → Heap.SameBut s₄.heap.objs.size (s₄.heap.push { cls := .type "frame", data := .dict #[] }) h' →
          Q' (.ref h'.objs.size) { s₄ with
            gens := s₄.gens.push (.fresh (.compStart (.GeneratorExp elt [⟨tg, iter, ifs, 0⟩] scope gpos) 0 (.ref it) .none (genEnv scope (cloFrom X.env.cells scope.names []) s₄.heap.objs.size code bi X.env))),
            toks := s₄.toks + 1 + 1 + 1,
            heap := h'.push { cls := .type "generator", data := .fields #[.int s₄.gens.size 0, .str "<genexpr>" (s₄.toks + 1), .str (X.env.qual ++ "<genexpr>") (s₄.toks + 1 + 1)] } }) X.xe { s2 with heap := h3, toks := tk } := by
    intro code h3 tk more hx hsz hP3 htr
    obtain ⟨bm, ob, e1, e2, e3, e4, e5, e6, e7, e8⟩ := TB.bm
    refine wpAny_builtinsFor (m := X.mg) (by rw [I2.ok.glob]; exact (I2.mod.glob.keeps I2.bk).extBut hx TB.gP) e1 e2 (hx _ _ e4 (I2.bk _ _ e5)) e6 e7 e8 ?_
    have I3 : Inv X pins σ (upd H1 P (.tbl (ps ++ more))) { s2 with heap := h3, gens := s2.gens, drawn := s2.drawn, toks := tk } := inv_tab (t' := tk) (d' := s2.drawn) I2 hP (fun b o hb e => hx b o hb e) hP3 I2.bare
    generalize hs4 : ({ s2 with heap := h3, toks := tk } : Shared) = s4 at I3 ⊢
    have hh4 : s4.heap = h3 := by rw [← hs4]
    generalize hH2 : upd H1 P (.tbl (ps ++ more)) = H2 at I3
    have tabbed : Tabbed P H1 H2 := by
      subst hH2
      exact ⟨⟨_, upd_same, htr⟩, fun b hb => upd_ne hb⟩
    obtain ⟨W, ⟨m0, w0⟩, turn⟩ := q H2 tabbed
    have f3 : ∀ b ∈ fp, FpOk X pins H2 b ∧ b < s4.heap.objs.size := fun b hb => by
      refine ⟨⟨?_, (f2 b hb).2⟩, by rw [hh4]; exact Nat.lt_of_lt_of_le (szf b hb) hsz⟩
      rw [tabbed.2 b (nfP b hb)]
      exact (f2 b hb).1
    have st4 : tn 0 s4.heap := T.keep _ _ _ st2 fun b hb o e => by rw [hh4]; exact hx b o (nfP b hb) e
    intro h' hn' hs'
    have szC : h'.objs.size = s4.heap.objs.size + 1 := by rw [hs'.1, Heap.size_push]
    have keep' : ∀ b o, s4.heap.get? b = some o → h'.get? b = some o := fun b o e => hs'.extBut b o (Nat.ne_of_lt (Heap.lt_size e)) (Heap.get?_push_of_some _ e)
    generalize hgo : ({ cls := .type "generator", data := .fields #[.int s4.gens.size 0, .str "<genexpr>" (s4.toks + 1), .str (X.env.qual ++ "<genexpr>") (s4.toks + 1 + 1)] } : Obj) = go
    have hgen : ∀ h : Heap, h.get? h'.objs.size = some go → h.IsGen h'.objs.size s4.gens.size := fun h e => ⟨go, .str "<genexpr>" (s4.toks + 1), .str (X.env.qual ++ "<genexpr>") (s4.toks + 1 + 1), e, by rw [← hgo], by rw [← hgo], by rw [← hgo]⟩
    have keep5 : ∀ b o, s4.heap.get? b = some o → (h'.push go).get? b = some o := fun b o e => Heap.get?_push_of_some _ (keep' b o e)
    generalize hcenv : genEnv scope (cloFrom X.env.cells scope.names []) s4.heap.objs.size code builtinsNs X.env = cenv
    have hL : cenv.locals = s4.heap.objs.size := by rw [← hcenv]; rfl
    have at5 : (h'.push go).get? h'.objs.size = some go := by
      rw [← hgo]
      exact Heap.get?_push_size _ rfl
    have I5 := gx_start (s5 := { s4 with gens := s4.gens.push (.fresh (.compStart (.GeneratorExp elt [⟨tg, iter, ifs, 0⟩] scope gpos) 0 (.ref it) .none cenv)), toks := s4.toks + 1 + 1 + 1, heap := h'.push go }) (A := X.A.in1.in1.deeper cenv) (a := h'.objs.size) (go := go)
      I3 ok hN hr.hd (Around.frames_deeper (A := X.A.in1.in1) I3.ok.frames) hcenv f3 rfl (AllBare.push I3.bare rfl) keep5 (hn'.push _) at5 (by rw [szC]; exact Nat.lt_succ_self _) (fun v z => by rw [← hgo] at z; cases z)
    have rk : Room k (X.A.in1.in1.deeper cenv) := roomG hr cenv
    have pg := hg (X.A.in1.in1.deeper cenv) s4 H2 s4.heap.objs.size (cloFrom X.env.cells scope.names []) code fp [(h'.objs.size, go)] rk
    have pt := ht (X.A.in1.in1.deeper cenv) s4 H2 s4.heap.objs.size (cloFrom X.env.cells scope.names []) code fp [(h'.objs.size, go)] rk
    have pe := he (X.A.in1.in1.deeper cenv) s4 H2 s4.heap.objs.size (cloFrom X.env.cells scope.names []) code fp [(h'.objs.size, go)] rk
    rw [hcenv] at pg pt pe
    have afp : h'.objs.size ∉ fp := fun z => by
      have := (f3 _ z).2
      rw [szC] at this
      exact absurd (Nat.lt_of_succ_lt this) (Nat.lt_irrefl _)
    have st5 : tn 0 (h'.push go) := T.keep _ _ _ st4 fun b _ o e => keep5 b o e
    refine hQ _ _ ⟨genX X (X.A.in1.in1.deeper cenv) s4 H2 cenv fp [(h'.objs.size, go)], fp, tn, W, s4.gens.size, m0 + 1, go, rfl, rfl, rfl, hgen, ⟨hgen _ at5, I5.nolimit, _, Array.getElem?_push_size .., rfl, ?_⟩, fun s' H' I' => ?_⟩
    · refine seg_gxStart (Xg := genX X (X.A.in1.in1.deeper cenv) s4 H2 cenv fp [(h'.objs.size, go)]) (J := J) (g := g) (tt := tt) (te := te) rfl (fun p hp => ?_) rfl rfl (by show cenv.scope.isCoroutine = false; rw [← hcenv]; exact ok.co) (fun cc hcc => ?_) T pg pt pe turn m0 (m0 + 1) 0 _ _ H2 (Nat.lt_succ_self _) ?_ ?_ (fun b hb => (f3 b hb).1.1) w0
      · rw [List.mem_singleton.mp hp]
        exact afp
      · rcases hcc with rfl | rfl <;> rfl
      · exact inv_gens I5 rfl rfl (allBare_setGen I5.bare rfl)
      · exact st5
    · exact I3.call' (ch := fp) I'.os I'.base I'.hok I'.bare fun b hb => ⟨(f3 b hb).1.2.2.2.1, (f3 b hb).1.2.1, (f3 b hb).1.2.2.2.2.1, (f3 b hb).1.2.2.2.2.2⟩
  cases hf : codeAmong gpos ps.toList with
  | none =>
    refine wpAny_genexprCodeX hcode (cd.code hPs ht3) (cd.tab hPs) hf fun c' h' tk hx hge hlt hco' _ htab' _ => ?_
    obtain ⟨o1, vs, f1, tf, fl, tg', inF, tx, tt', op, _, _, _, _, _, _, _, _, _, htr, _⟩ := hco'
    exact cont _ h' tk _ hx (Nat.le_trans hge (Nat.le_of_lt hlt)) htab'.2 htr
  | some cv =>
    refine wpAny_genexprCode_hit hcode (cd.code hPs ht3) hf ?_
    exact cont cv s2.heap s2.toks #[] (Heap.ExtBut.refl _ _) (Nat.le_refl _) (by simpa using hPs) (by simpa using ht3)
theorem pe_all {c P : Addr} {tg elt iter : Expr} {ifs : List Expr} {scope : Scope} {p pos gpos : Pos} {own : List (Str × Nat)} {wi : TI} {g : TG} {tt : TT} {te : TE} {k : Nat}
    (hr : Room (k + 1) X.A) (hgl : Gl X "all") (hm : X.mg "all" = none) (TB : TabB X.base X.mg c P) (hcode : X.env.code = .ref c) (hN : X.N.Nodup) (ok : GxOk X.N X.env.scope scope own) (hi : PI X tg iter wi)
    (hg : ∀ (A : Around) (s : Shared) (H : Hp) (C : Addr) (cl : List (Str × Addr)) (code : Value) (fp : List Addr) (pn : List (Addr × Obj)), Room k A → PG (genX X A s H (genEnv scope cl C code builtinsNs X.env) fp pn) tg g)
    (ht : ∀ (A : Around) (s : Shared) (H : Hp) (C : Addr) (cl : List (Str × Addr)) (code : Value) (fp : List Addr) (pn : List (Addr × Obj)), Room k A → PTs (genX X A s H (genEnv scope cl C code builtinsNs X.env) fp pn) ifs tt)
    (he' : ∀ (A : Around) (s : Shared) (H : Hp) (C : Addr) (cl : List (Str × Addr)) (code : Value) (fp : List Addr) (pn : List (Addr × Obj)), Room k A → PE (genX X A s H (genEnv scope cl C code builtinsNs X.env) fp pn) elt te)
    (hs : ∀ v, genFold iter X.env v = pure v := by intro _; rfl) (hb : bootBuiltins "all" = some (.builtin "all") := by decide +kernel)
    (he : starEach [.GeneratorExp elt [⟨tg, iter, ifs, 0⟩] scope gpos] X.env = (false, eval (.GeneratorExp elt [⟨tg, iter, ifs, 0⟩] scope gpos) X.env) :: starEach [] X.env := by rfl) :
    PE X (.Call (.Name "all" p) [.GeneratorExp elt [⟨tg, iter, ifs, 0⟩] scope gpos] [] pos) (tGx true P wi g tt te (own.map (·.2))) := by
  refine ⟨fun pins s σ H Q I h => ?_⟩
  refine wpAny_Call_Name_kw (ld_blt I hgl hm hb ?_)
  refine PyProof.Rows.callWith_builtin1 ?_ he (by rfl)
  rw [he]
  show wpAny _ _ (spliced ((false, eval (.GeneratorExp elt [⟨tg, iter, ifs, 0⟩] scope gpos) X.env) :: backTo pos (starEach [] X.env))) _ _ s
  refine Calls.spliced_cons (gx_make hr TB hcode hN ok hi hg ht he' hs I h fun a s5 hR => ?_)
  refine Calls.spliced_nil ?_
  obtain ⟨Xg, fp, tn, W, gn, n, go, hP, hw, hpn, hgo, hat, hback⟩ := hR
  refine call_function_tree F.kind_all F.plain_all F.entry_all (F.args_all1 _) ?_
  unfold Builtin.«all»
  refine wpAny_bind (m := oneArg "all" _) (wpAny_pure ?_)
  refine wpAny_bind (wpAny_pyIter_gen hat.1 ?_)
  refine wpAny_pure ⟨plainId_quiet F.plain_all_loop _, gx_loop (.inl ⟨rfl, rfl⟩) hP hw hr.hd (by have := hr.dp; omega) hpn hgo (fun b s' H' I' q => ?_) n s5 hat⟩
  exact ⟨.bl b, H', hback s' H' I', rfl, q⟩
theorem pe_any {c P : Addr} {tg elt iter : Expr} {ifs : List Expr} {scope : Scope} {p pos gpos : Pos} {own : List (Str × Nat)} {wi : TI} {g : TG} {tt : TT} {te : TE} {k : Nat}
    (hr : Room (k + 1) X.A) (hgl : Gl X "any") (hm : X.mg "any" = none) (TB : TabB X.base X.mg c P) (hcode : X.env.code = .ref c) (hN : X.N.Nodup) (ok : GxOk X.N X.env.scope scope own) (hi : PI X tg iter wi)
    (hg : ∀ (A : Around) (s : Shared) (H : Hp) (C : Addr) (cl : List (Str × Addr)) (code : Value) (fp : List Addr) (pn : List (Addr × Obj)), Room k A → PG (genX X A s H (genEnv scope cl C code builtinsNs X.env) fp pn) tg g)
    (ht : ∀ (A : Around) (s : Shared) (H : Hp) (C : Addr) (cl : List (Str × Addr)) (code : Value) (fp : List Addr) (pn : List (Addr × Obj)), Room k A → PTs (genX X A s H (genEnv scope cl C code builtinsNs X.env) fp pn) ifs tt)
    (he' : ∀ (A : Around) (s : Shared) (H : Hp) (C : Addr) (cl : List (Str × Addr)) (code : Value) (fp : List Addr) (pn : List (Addr × Obj)), Room k A → PE (genX X A s H (genEnv scope cl C code builtinsNs X.env) fp pn) elt te)
    (hs : ∀ v, genFold iter X.env v = pure v := by intro _; rfl) (hb : bootBuiltins "any" = some (.builtin "any") := by decide +kernel)
    (he : starEach [.GeneratorExp elt [⟨tg, iter, ifs, 0⟩] scope gpos] X.env = (false, eval (.GeneratorExp elt [⟨tg, iter, ifs, 0⟩] scope gpos) X.env) :: starEach [] X.env := by rfl) :
    PE X (.Call (.Name "any" p) [.GeneratorExp elt [⟨tg, iter, ifs, 0⟩] scope gpos] [] pos) (tGx false P wi g tt te (own.map (·.2))) := by
  refine ⟨fun pins s σ H Q I h => ?_⟩
  refine wpAny_Call_Name_kw (ld_blt I hgl hm hb ?_)
  refine PyProof.Rows.callWith_builtin1 ?_ he (by rfl)
  rw [he]
  show wpAny _ _ (spliced ((false, eval (.GeneratorExp elt [⟨tg, iter, ifs, 0⟩] scope gpos) X.env) :: backTo pos (starEach [] X.env))) _ _ s
  refine Calls.spliced_cons (gx_make hr TB hcode hN ok hi hg ht he' hs I h fun a s5 hR => ?_)
  refine Calls.spliced_nil ?_
  obtain ⟨Xg, fp, tn, W, gn, n, go, hP, hw, hpn, hgo, hat, hback⟩ := hR
  refine call_function_tree F.kind_any F.plain_any F.entry_any (F.args_any1 _) ?_
  unfold Builtin.«any»
  refine wpAny_bind (m := oneArg "any" _) (wpAny_pure ?_)
  refine wpAny_bind (wpAny_pyIter_gen hat.1 ?_)
  refine wpAny_pure ⟨plainId_quiet F.plain_any_loop _, gx_loop (.inr ⟨rfl, rfl⟩) hP hw hr.hd (by have := hr.dp; omega) hpn hgo (fun b s' H' I' q => ?_) n s5 hat⟩
  exact ⟨.bl b, H', hback s' H' I', rfl, q⟩
end
end Zk

set_option maxHeartbeats 4000000
/-! K0: rules over data: isinstance, == with an empty tuple or list, sorted(d.items()) of ints. -/
namespace Zk
open PySem PySem.Spec PyProof.Rows L2 GxR

/-! ### the heap but for tables of code -/
/-- what stands and is no table stands -/
def Sm (H H' : Hp) : Prop := ∀ b o, H b = some o → (∀ ps, o ≠ .tbl ps) → H' b = some o
theorem Sm.refl (H : Hp) : Sm H H := fun _ _ e _ => e
theorem Sm.trans {a b c : Hp} (x : Sm a b) (y : Sm b c) : Sm a c := fun p o e n => y p o (x p o e n) n
theorem Same.sm {H H' : Hp} (x : Same H H') : Sm H H' := fun p o e _ => x p o e
/-- the tables at T -/
def Tb (T : List Addr) (H : Hp) : Prop := ∀ P ∈ T, TabG H P
theorem Tb.same {T : List Addr} {H H' : Hp} (t : Tb T H) (s : Same H H') : Tb T H' := fun P hP => let ⟨ps, e, h⟩ := t P hP; ⟨ps, s _ _ e, h⟩
theorem Tb.mono {T T' : List Addr} {H : Hp} (t : Tb T H) (h : ∀ P ∈ T', P ∈ T) : Tb T' H := fun P hP => t P (h P hP)
theorem Tabbed.sm {P : Addr} {H H' : Hp} (t : Tabbed P H H') (g : TabG H P) : Sm H H' := fun b o e n => by
  by_cases hb : b = P
  · obtain ⟨ps, e2, _⟩ := g
    rw [hb, e2] at e
    exact absurd (Option.some.inj e).symm (n ps)
  · rw [t.2 b hb]
    exact e
theorem Tabbed.tb {T : List Addr} {P : Addr} {H H' : Hp} (t : Tabbed P H H') (g : Tb T H) : Tb T H' := fun R hR => by
  by_cases hb : R = P
  · rw [hb]
    exact t.1
  · obtain ⟨ps, e, h⟩ := g R hR
    exact ⟨ps, by rw [t.2 R hb]; exact e, h⟩
mutual
theorem Sd.sm {H H' : Hp} (e : Sm H H') : ∀ {v : V} {d : PyData}, Sd H v d → Sd H' v d
  | _, _, .non => .non
  | _, _, .bl b => .bl b
  | _, _, .int i => .int i
  | _, _, .str x => .str x
  | _, _, .lst h t => .lst (e _ _ h fun _ z => nomatch z) (SdL.sm e t)
  | _, _, .tup h t => .tup (e _ _ h fun _ z => nomatch z) (SdL.sm e t)
  | _, _, .dic h t => .dic (e _ _ h fun _ z => nomatch z) (SdK.sm e t)
theorem SdL.sm {H H' : Hp} (e : Sm H H') : ∀ {vs : List V} {ds : List PyData}, SdL H vs ds → SdL H' vs ds
  | _, _, .nil => .nil
  | _, _, .cons h t => .cons (Sd.sm e h) (SdL.sm e t)
theorem SdK.sm {H H' : Hp} (e : Sm H H') : ∀ {ks : List (Key × V)} {es : List (PyData × PyData)}, SdK H ks es → SdK H' ks es
  | _, _, .nil => .nil
  | _, _, .cons h t => .cons (Sd.sm e h) (SdK.sm e t)
end

/-! ### isinstance -/
def tyD : PyData → String
  | .none => "NoneType"
  | .bool _ => "bool"
  | .int _ => "int"
  | .str _ => "str"
  | .list _ => "list"
  | .tuple _ => "tuple"
  | .dict _ => "dict"
def isNumD : PyData → Bool
  | .int _ => true
  | .bool _ => true
  | _ => false
def isBoolD : PyData → Bool
  | .bool _ => true
  | _ => false
def isStrD : PyData → Bool
  | .str _ => true
  | _ => false
def isListD : PyData → Bool
  | .list _ => true
  | _ => false
def isTupD : PyData → Bool
  | .tuple _ => true
  | _ => false
/-- an integer that is no bool -/
def isIntD : PyData → Bool
  | .int _ => true
  | _ => false
/-- a built-in class's name, and of which data it is the class -/
inductive IsTy : String → (PyData → Bool) → Prop
  | int : IsTy "int" isNumD
  | bool : IsTy "bool" isBoolD
  | str : IsTy "str" isStrD
  | list : IsTy "list" isListD
  | tuple : IsTy "tuple" isTupD
theorem sd_ty {K : PySem.W.Frag} {H : Hp} {v : V} {d : PyData} (h : Sd H v d) : TyX K H v (.type (tyD d)) := by
  cases h with
  | non => exact .base .non
  | bl b => exact .base (.bl b)
  | int i => exact .base (.int i)
  | str x => exact .base (.str x)
  | lst h _ => exact .base (.lst h)
  | tup h _ => exact .base (.tup h)
  | dic h _ => exact .base (.dK h)
theorem sd_kit {K : PySem.W.Frag} {H : Hp} {v : V} {d : PyData} {n : String} {f : PyData → Bool} (h : Sd H v d) (t : IsTy n f) : PySem.W.kitOne K (.type (tyD d)) (.type n) = some (f d) := by
  cases t <;> cases h <;> (refine kit_ty ?_; simp only [tyD, isNumD, isBoolD, isStrD, isListD, isTupD]; decide +kernel)
def rIsD (n : String) (f : PyData → Bool) : List V → Hp → VK → Prop := fun xs H Q => ∃ x d, xs = [x, .ty n] ∧ Sd H x d ∧ Q (.bl (f d)) H
section
variable {X : Cx} {te : TE} {e : Expr}
theorem call_isD {n : String} {f : PyData → Bool} (t : IsTy n f) : CallR X (.builtin "isinstance") (rIsD n f) := by
  intro pins s σ H xs us Q I r h
  obtain ⟨x, d, rfl, sd, q⟩ := h
  exact call_isi pins s σ H _ us Q I r ⟨x, .ty n, _, _, _, rfl, .ty n, sd_ty sd, sd_kit sd t, q⟩
/-- isinstance(e, T), e data -/
theorem pe_isD {nm : Str} {n : String} {f : PyData → Bool} {p p2 pos : Pos} (t : IsTy n f) (he : PE X e te) (hg : Gl X "isinstance") (hm : X.mg "isinstance" = none) (hg2 : Gl X nm) (hm2 : X.mg nm = none) (hv2 : bootBuiltins nm = some (.type n)) (hn2 : nm ≠ "__name__" := by decide) (hd2 : (nm == ("__debug__" : Str)) = false := by decide)
    (hst : starEach (e :: [.Name nm p2]) X.env = (false, eval e X.env) :: starEach [.Name nm p2] X.env := by rfl) (hpl : (backTo pos (starEach [.Name nm p2] X.env)).any (·.1) = false := by rfl) :
    PE X (.Call (.Name "isinstance" p) [e, .Name nm p2] [] pos) (tCB (rIsD n f) (tCons te (tCons (tC (.ty n)) tNil))) :=
  pe_callB (call_isD t) hg hm PyProof.Rows.boot_isinstance (pa_cons he (pa_cons (pe_bltn (v := .ty n) hg2 hm2 hv2 rfl hn2 hd2) pa_nil) (hs := hst)) (he := hst) (hpl := hpl)

/-! ### == with an empty tuple, an empty list -/
/-- x == (), x a tuple -/
def rEqT0 (K : PySem.W.Frag) (k : Bool → Bool) : R2 := fun x y H Q => ∃ a b xs, x = .ref a ∧ y = .ref b ∧ SqT K H a xs ∧ SqT K H b [] ∧ Q (.bl (k xs.isEmpty)) H
def rEqL0 (K : PySem.W.Frag) (k : Bool → Bool) : R2 := fun x y H Q => ∃ a b xs, x = .ref a ∧ y = .ref b ∧ SqL K H a xs ∧ SqL K H b [] ∧ Q (.bl (k xs.isEmpty)) H
theorem op_eqT0 (hu : X.A.units < cLine) : OpR X (compareOp .Eq) (rEqT0 X.K id) := by
  intro pins s σ H x y v u Q I rx ry h
  obtain ⟨a, b, xs, rfl, rfl, ha, hb, q⟩ := h
  cases rx
  cases ry
  obtain ⟨its, r1, p1, _⟩ := I.tuple ha
  obtain ⟨its2, r2, p2, _⟩ := I.tuple hb
  cases r2
  refine SeqAt.eq_tupleAt (e := fun _ => true) p1 p2 hu (fun j _ h2 => absurd h2 (by simp)) ⟨.bl _, H, I, rfl, ?_⟩
  have e : (its.length == 0) = xs.isEmpty := by cases r1 <;> rfl
  simpa [e] using q
theorem op_neT0 (hu : X.A.units < cLine) : OpR X (compareOp .NotEq) (rEqT0 X.K not) := by
  intro pins s σ H x y v u Q I rx ry h
  obtain ⟨a, b, xs, rfl, rfl, ha, hb, q⟩ := h
  cases rx
  cases ry
  obtain ⟨its, r1, p1, _⟩ := I.tuple ha
  obtain ⟨its2, r2, p2, _⟩ := I.tuple hb
  cases r2
  refine SeqAt.RcNeAt.tuples (e := fun _ => true) p1 p2 hu (fun j _ h2 => absurd h2 (by simp)) _ _ _ _ ⟨.bl _, H, I, rfl, ?_⟩
  have e : (its.length == 0) = xs.isEmpty := by cases r1 <;> rfl
  simpa [e] using q
theorem op_eqL0 (hu : X.A.units < cLine) : OpR X (compareOp .Eq) (rEqL0 X.K id) := by
  intro pins s σ H x y v u Q I rx ry h
  obtain ⟨a, b, xs, rfl, rfl, ha, hb, q⟩ := h
  cases rx
  cases ry
  obtain ⟨its, r1, p1, _⟩ := I.list ha
  obtain ⟨its2, r2, p2, _⟩ := I.list hb
  cases r2
  cases r1 with
  | nil => exact SeqAt.eq_listAt (e := fun _ => true) p1.isList p2.isList rfl hu (fun j h1 _ => absurd h1 (by simp)) ⟨.bl _, H, I, rfl, by simpa using q⟩
  | cons _ _ => exact SeqAt.eq_list_lengthsAt p1.isList p2.isList (by simp) hu ⟨.bl _, H, I, rfl, by simpa using q⟩
end
end Zk

set_option maxHeartbeats 4000000
/-! K1: d.items() of a dict of ints, sorted(d.items()). -/
namespace Zk
open PySem PySem.Spec PyProof.Rows L2 GxR
open L2.DX (itemsO itemsO_ok takeT)

abbrev IP := Int × Int
def dI (es : List IP) : List (Key × V) := es.map fun e => (.inl e.1, .int e.2)
/-- tuples (i, j) at ts -/
def PT (H : Hp) : List V → List IP → Prop := Paired fun v e => ∃ t, v = .ref t ∧ H t = some (.tup [.int e.1, .int e.2])
theorem PT.sm {H H' : Hp} (s : Sm H H') : ∀ {ts : List V} {es : List IP}, PT H ts es → PT H' ts es
  | _, _, .nil => .nil
  | _, _, .cons ⟨t, e, h⟩ r => .cons ⟨t, e, s _ _ h fun _ z => nomatch z⟩ (PT.sm s r)
theorem PT.len {H : Hp} {ts : List V} {es : List IP} (h : PT H ts es) : ts.length = es.length := Paired.length h
def pairOf (h : Heap) : Value → IP
  | .ref a => match h.get? a with
    | some o => match o.data with
      | .seq items _ => match items.toList with
        | [.int x _, .int y _] => (x, y)
        | _ => (0, 0)
      | _ => (0, 0)
    | none => (0, 0)
  | _ => (0, 0)
theorem pairOf_of {h : Heap} {v : Value} {x y : Int} (p : Srt.IsPair h v x y) : pairOf h v = (x, y) := by
  obtain ⟨a, o, t, u, n, rfl, ho, hc, hd⟩ := p
  simp only [pairOf, ho, hd]
section
variable {X : Cx}
def rItemsK : V → List V → Hp → VK → Prop := fun x xs H Q => ∃ (a : Addr) (kvs : List (Key × V)), x = .ref a ∧ xs = [] ∧ H a = some (.dK kvs) ∧ ∀ p, H p = none → Q (.ref p) (upd H p (itemsO p a))
theorem raw_of {pins : List (Addr × Obj)} {σ : L2.St} {H : Hp} {s : Shared} {a : Addr} {kvs : List (Key × V)} (I : Inv X pins σ H s) (ha : H a = some (.dK kvs)) :
    (a == sysModules) = false ∧ kvs.length ≤ sizeLine ∧ ∃ es ep vs, DT.Raw s.heap a es ep ∧ KV kvs vs ∧ Pairs (mixKind X.prog X.w) es.toList vs := by
  obtain ⟨z, lo, vs, rel, o, es, ep, ho, hx, hd, _, hp, _⟩ := I.hok a _ ha
  exact ⟨lo, z, es, ep, vs, ⟨o, ho, hx, hd⟩, rel, hp⟩
theorem mt_itemsK : MtR X "dict.items" rItemsK := by
  intro pins s σ H x xs v us Q I rx rxs h
  obtain ⟨a, kvs, rfl, rfl, ha, q⟩ := h
  cases rx
  cases rxs
  obtain ⟨lo, z, es, ep, vs, raw, _⟩ := raw_of I ha
  refine DT.callItems (es := es) (ep := ep) lo raw ?_
  have hf : H s.heap.objs.size = none := I.hok.fresh (Nat.le_refl _)
  exact ⟨.ref s.heap.objs.size, upd H s.heap.objs.size (itemsO s.heap.objs.size a), I.laid (t' := s.toks) (fun b u e => Heap.get?_push_of_some _ e) (Nat.le_refl _) (itemsO_ok (Heap.get?_push_size _ rfl)), rfl, q _ hf⟩
/-- sorted(d.items()), keys and values ints -/
def rSortII : List V → Hp → VK → Prop := fun vs H Q => ∃ (p a : Addr) (es : List IP), vs = [.ref p] ∧ H p = some (itemsO p a) ∧ H a = some (.dK (dI es)) ∧
  ∀ (ys : List IP) (H' : Hp) (l : Addr) (ts : List V), ys.Perm es → ys.Pairwise (fun x y => SrtO.lexB y x = false) → Same H H' → H l = none → H' l = some (.lst ts) → PT H' ts ys → Q (.ref l) H'
theorem kv_dI {P : Program} {w : World} : ∀ {es : List IP} {ent : List DictEntry} {vs : List (Key × Value)}, KV (dI es) vs → Pairs (mixKind P w) ent vs →
    ent.length = es.length ∧ ∀ (j : Nat) (e : IP), es[j]? = some e → ∃ en t u, ent[j]? = some en ∧ en.key = .int e.1 t ∧ en.val = .int e.2 u
  | [], _, _, .nil, .nil => ⟨rfl, fun j e h => by simp at h⟩
  | e :: es, _, _, .cons r t, .cons h1 h2 h3 => by
    obtain ⟨l, q⟩ := kv_dI t h3
    refine ⟨by rw [List.length_cons, List.length_cons, l], fun j e' h => ?_⟩
    cases j with
    | zero =>
      simp only [List.getElem?_cons_zero, Option.some.injEq] at h
      subst h
      obtain ⟨r1, u, r2⟩ := r
      have r1 : (Sum.inl e.1 : Key) = _ := r1
      rw [← r1] at h1
      rcases keyIs_shape (show keyIs (Sum.inl e.1) _ = true from h1) with ⟨i, tk, e1, e2⟩ | ⟨x, tk, e1, _⟩
      · cases e1
        exact ⟨_, tk, u, rfl, e2, by rw [h2, r2]⟩
      · exact nomatch e1
    | succ j =>
      simp only [List.getElem?_cons_succ] at h
      obtain ⟨en, tk, u, a, b, c⟩ := q j e' h
      exact ⟨en, tk, u, by rw [List.getElem?_cons_succ]; exact a, b, c⟩
theorem cr_sortedII (hc : X.calm = true) : CallR X (.builtin "sorted") rSortII := by
  intro pins s σ H xs us Q I r h
  obtain ⟨p, a, es, rfl, hp, ha, q⟩ := h
  obtain rfl := Vals.ref1 r
  have view : s.heap.IsItemsView p a := (show ObjOk X.prog X.w H s.heap p (itemsO p a) from I.hok p _ hp).1
  obtain ⟨lo, z, ent, ep, vs, raw, rel, hpr⟩ := raw_of I ha
  obtain ⟨le, hat⟩ := kv_dI rel hpr
  have les : ent.size = es.length := by rw [← Array.length_toList]; exact le
  have zes : es.length ≤ sizeLine := by simpa [dI] using z
  refine DT.sortedI (es := ent) (ep := ep) (I.ok.hd hc) view raw (by rw [les]; exact zes) fun h' tk as hk hlt hl hG => ?_
  have lak : as.length = es.length := hl.trans les
  have nd : as.Nodup := List.Pairwise.imp (fun h => Nat.ne_of_lt h) hG.rise
  -- the pairs that were made
  have pr : ∀ (j : Nat) (b : Addr), as[j]? = some b → ∃ (e : IP) (t u : Tok), es[j]? = some e ∧ h'.get? b = some { cls := .type "tuple", data := .seq #[Value.int e.1 t, Value.int e.2 u] } := by
    intro j b hj
    obtain ⟨en, he, hg⟩ := hG.pairs j b hj
    have hjl : j < es.length := by
      have := (List.getElem?_eq_some_iff.mp hj).1
      omega
    obtain ⟨en', t, u, e1, e2, e3⟩ := hat j es[j] (List.getElem?_eq_getElem hjl)
    have : en' = en := by
      rw [← Array.getElem?_toList] at he
      exact Option.some.inj (e1.symm.trans he)
    subst this
    exact ⟨es[j], t, u, List.getElem?_eq_getElem hjl, by rw [hg, e2, e3]⟩
  have hob : (h'.push { cls := .type "list", data := .seq (as.map Value.ref).toArray }).get? h'.objs.size = some (seqObj "list" (as.map Value.ref).toArray 0) := Heap.get?_push_size _ rfl
  have ne0 : ∀ b o, h'.get? b = some o → b ≠ h'.objs.size := fun b o e => Nat.ne_of_lt (Heap.lt_size e)
  generalize hh2 : h'.push { cls := .type "list", data := .seq (as.map Value.ref).toArray } = h2 at hob ⊢
  have ka : ∀ b o, h'.get? b = some o → h2.get? b = some o := fun b o e => by rw [← hh2]; exact Heap.get?_push_of_some _ e
  have kb : ∀ b o, s.heap.get? b = some o → h2.get? b = some o := fun b o e => ka b o (hk b o e)
  have isP : ∀ v ∈ as.map Value.ref, ∃ (j : Nat) (b : Addr) (e : IP), v = .ref b ∧ as[j]? = some b ∧ es[j]? = some e ∧ Srt.IsPair h2 v e.1 e.2 := fun v hv => by
    obtain ⟨b, hb, rfl⟩ := List.mem_map.mp hv
    obtain ⟨j, hj⟩ := List.mem_iff_getElem?.mp hb
    obtain ⟨e, t, u, he, hg⟩ := pr j b hj
    exact ⟨j, b, e, rfl, hj, he, b, _, t, u, 0, rfl, ka _ _ hg, rfl, rfl⟩
  have isK : ∀ v ∈ as.map Value.ref, Srt.IsPair h2 v (pairOf h2 v).1 (pairOf h2 v).2 := fun v hv => by
    obtain ⟨_, _, e, _, _, _, hp⟩ := isP v hv
    rw [pairOf_of hp]
    exact hp
  have mapK : (as.map Value.ref).map (pairOf h2) = es := by
    apply List.ext_getElem?
    intro j
    by_cases hj : j < as.length
    · have h1 : as[j]? = some as[j] := List.getElem?_eq_getElem hj
      obtain ⟨e, t, u, he, hg⟩ := pr j _ h1
      rw [List.getElem?_map, List.getElem?_map, h1, he]
      show some (pairOf h2 (.ref as[j])) = _
      rw [pairOf_of ⟨as[j], _, t, u, 0, rfl, ka _ _ hg, rfl, rfl⟩]
    · rw [List.getElem?_eq_none (by simpa using hj), List.getElem?_eq_none (by omega)]
  refine wpAny_call_entry PyProof.Rows.slot_list_sort ⟨_, hob, rfl⟩ PyProof.Rows.entry_list_sort
    (SrtO.list_sort_ord (s := { s with heap := h2, toks := tk }) (SrtO.swo_lex (pairOf h2)) hob (by rw [List.length_map, lak]; exact zes)
      (fun h2' => SrtO.pairs_sortableO (s := { s with heap := h2, toks := tk }) (by omega) isK fun o e c => ?_) fun out o1 o2 => ⟨.none, rfl, ?_⟩) (PyProof.Rows.args_list_sort _)
  · have e : h2.get? h'.objs.size = some o := e
    rw [hob] at e
    cases e
    exact absurd (Value.type.inj c) (by decide)
  · show EP X pins σ Q (.ref h'.objs.size) { s with heap := sortedHeap h2 h'.objs.size (as.map Value.ref) out.toArray, toks := tk }
    have kF : ∀ b o, b ≠ h'.objs.size → h2.get? b = some o → (sortedHeap h2 h'.objs.size (as.map Value.ref) out.toArray).get? b = some o := fun b o hb e => (PyProof.Rows.sortedHeap_old hb (Heap.lt_size e)).trans e
    have kS : ∀ b o, s.heap.get? b = some o → (sortedHeap h2 h'.objs.size (as.map Value.ref) out.toArray).get? b = some o := fun b o e => kF b o (ne0 _ _ (hk b o e)) (kb b o e)
    obtain ⟨eF, heF⟩ := PyProof.Rows.sortedHeap_at (vs := as.map Value.ref) (out := out.toArray) hob
    have I1 : Inv X pins σ H { s with heap := sortedHeap h2 h'.objs.size (as.map Value.ref) out.toArray, toks := tk } := I.kept (t' := tk) kS
    have hn0 : H h'.objs.size = none := I.hok.fresh (Nat.le_of_lt hlt)
    have perm := o2.perm
    have lout : out.length = es.length := by rw [perm.length_eq, List.length_map, lak]
    have ref : ∀ v ∈ out, ∃ (j : Nat) (b : Addr) (e : IP), v = .ref b ∧ as[j]? = some b ∧ es[j]? = some e ∧ Srt.IsPair h2 v e.1 e.2 := fun v hv => isP v (perm.mem_iff.mp hv)
    have I2 : Inv X pins σ (upd H h'.objs.size (.lst (out.map backV))) { s with heap := sortedHeap h2 h'.objs.size (as.map Value.ref) out.toArray, toks := tk } :=
      I1.take (h' := sortedHeap h2 h'.objs.size (as.map Value.ref) out.toArray) (t' := tk) (fun b ob _ e => e) (I.fpOk (Nat.le_of_lt hlt) hn0) ⟨by rw [List.length_map, lout]; exact zes, out, eF, vals_back fun v hv => let ⟨_, b, _, e, _⟩ := ref v hv; ⟨b, e⟩, heF⟩
    obtain ⟨H2, I3, g, qt⟩ := takeT (P := fun b vs => ∃ (j : Nat) (e : IP), as[j]? = some b ∧ es[j]? = some e ∧ vs = [.int e.1, .int e.2]) I as _ I2 nd fun b hb => by
      obtain ⟨j, hj⟩ := List.mem_iff_getElem?.mp hb
      obtain ⟨e, t, u, he, hg⟩ := pr j b hj
      have hbl : s.heap.objs.size ≤ b := Nat.le_of_lt (hG.above b hb)
      refine ⟨hbl, ?_, [.int e.1, .int e.2], ⟨j, e, hj, he, rfl⟩, fun H3 => ⟨(by rw [sizeLine_eq]; show 2 ≤ 16777216; omega), [Value.int e.1 t, Value.int e.2 u], .cons ⟨t, rfl⟩ (.cons ⟨u, rfl⟩ .nil), ⟨_, kF _ _ (ne0 _ _ hg) (ka _ _ hg), rfl, 0, rfl⟩⟩⟩
      rw [upd_ne (ne0 _ _ hg)]
      exact I.hok.fresh hbl
    have gr : ∀ b o, H b = some o → H2 b = some o := fun b o e => g b o (by rw [upd_ne (ne_of_none e hn0)]; exact e)
    have pm : (out.map (pairOf h2)).Perm es := by
      have := perm.map (pairOf h2)
      rw [mapK] at this
      exact this
    refine ⟨.ref h'.objs.size, H2, I3, rfl, q (out.map (pairOf h2)) H2 h'.objs.size (out.map backV) pm (List.pairwise_map.mpr o1) gr hn0 (g _ _ upd_same) ?_⟩
    have all : ∀ l : List Value, (∀ v ∈ l, v ∈ out) → PT H2 (l.map backV) (l.map (pairOf h2)) := fun l => by
      induction l with
      | nil => exact fun _ => .nil
      | cons v l ih =>
        intro hm
        refine .cons ?_ (ih fun u hu => hm u (List.mem_cons_of_mem _ hu))
        obtain ⟨j, b, e, rfl, hj, he, hpp⟩ := ref v (hm v List.mem_cons_self)
        obtain ⟨vs', ⟨j', e', j1, j2, ev⟩, hH⟩ := qt b (List.mem_of_getElem? hj)
        have eij : j = j' := (List.getElem?_inj (List.getElem?_eq_some_iff.mp hj).1 nd).mp (hj.trans j1.symm)
        subst eij
        have ee : e' = e := Option.some.inj (j2.symm.trans he)
        subst ee
        rw [pairOf_of hpp]
        exact ⟨b, rfl, by rw [hH, ev]⟩
    exact all out fun v hv => hv
end
end Zk

set_option maxHeartbeats 1000000
/-! V0: defs over data alone: what stands in the slots, how the heap holds it, what an expression keeps. -/
namespace Zk
open PySem PySem.Spec PyProof.Rows L2 GxR
/-- what a slot holds: data, the deck, a list or a dict of its own, or whatever -/
inductive DV where
  | d (x : PyData) | deck | lst (xs : List PyData) | dic (kvs : List (Key × PyData)) | dct (kvs : List (List Key × PyData)) | no
abbrev DEnv := List DV
def DV.own : DV → Bool
  | .lst _ => true
  | .dic _ => true
  | .dct _ => true
  | _ => false
/-- the heap without Z -/
noncomputable def msk (Z : Addr → Prop) (H : Hp) : Hp := by
  classical
  exact fun b => if Z b then none else H b
theorem msk_some {Z : Addr → Prop} {H : Hp} {b : Addr} {o : HO} : msk Z H b = some o ↔ ¬ Z b ∧ H b = some o := by
  unfold msk
  split
  · next h =>
    constructor
    · intro e
      cases e
    · intro e
      exact absurd h e.1
  · next h =>
    constructor
    · intro e
      exact ⟨h, e⟩
    · intro e
      exact e.2
theorem msk_sm {Z : Addr → Prop} {H : Hp} : Sm (msk Z H) H := fun _ _ e _ => (msk_some.mp e).2
theorem msk_less {Z Y : Addr → Prop} {H : Hp} (h : ∀ b, Y b → Z b) : Sm (msk Z H) (msk Y H) := fun b o e _ => msk_some.mpr ⟨fun y => (msk_some.mp e).1 (h b y), (msk_some.mp e).2⟩
/-- the deck: a dict, and its list of cells -/
def DeckOk (nm : Str) (H : Hp) (dk lf : Addr) : Prop := ∃ (left : List Int) (m d : Int), H dk = some (.dK [(.inr nm, .ref lf), (.inr "mixed", .int m), (.inr "draws", .int d)]) ∧ H lf = some (.lst (left.map V.int)) ∧ left.length ≤ 63 ∧ 0 ≤ m ∧ m < 2 ^ 31
structure DC (Ta : List Addr) (nm : Str) where
  dk : Option (Addr × Addr)
  Z0 : Addr → Prop
  He : Hp
section
variable {Ta : List Addr} {nm : Str} {C : DC Ta nm} {H H' H2 : Hp} {σ : L2.St} {E : DEnv} {b p : Addr} {o : HO}
def DC.Dk (C : DC Ta nm) (b : Addr) : Prop := ∃ q, C.dk = some q ∧ (b = q.1 ∨ b = q.2)
/-- all stays but the deck and the tables of code -/
def Go (C : DC Ta nm) (H H' : Hp) : Prop := ∀ b o, H b = some o → (∀ ps, o ≠ .tbl ps) → ¬ C.Dk b → H' b = some o
theorem Go.refl : Go C H H := fun _ _ e _ _ => e
theorem Go.trans (a : Go C H H') (c : Go C H' H2) : Go C H H2 := fun b o e n d => c b o (a b o e n d) n d
theorem Sm.go (a : Sm H H') : Go C H H' := fun b o e n _ => a b o e n
theorem Same.go (a : Same H H') : Go C H H' := fun b o e _ _ => a b o e
structure Ok (C : DC Ta nm) (H : Hp) : Prop where
  tb : Tb Ta H
  dk : ∀ q, C.dk = some q → DeckOk nm H q.1 q.2
theorem DeckOk.sm {dk lf : Addr} (h : DeckOk nm H dk lf) (s : Sm H H') : DeckOk nm H' dk lf := by
  obtain ⟨l, m, d, e1, e2, r⟩ := h
  exact ⟨l, m, d, s _ _ e1 (fun _ z => nomatch z), s _ _ e2 (fun _ z => nomatch z), r⟩
theorem Ok.sm (h : Ok C H) (s : Sm H H') (t : Tb Ta H') : Ok C H' := ⟨t, fun q e => (h.dk q e).sm s⟩
theorem Ok.same (h : Ok C H) (s : Same H H') : Ok C H' := h.sm (Same.sm s) (h.tb.same s)
theorem Ok.at (h : Ok C H) (k : C.Dk b) : ∃ o, H b = some o ∧ ∀ ps, o ≠ .tbl ps := by
  obtain ⟨q, e, z⟩ := k
  obtain ⟨l, m, d, e1, e2, _⟩ := h.dk q e
  rcases z with rfl | rfl
  · exact ⟨_, e1, fun _ z => nomatch z⟩
  · exact ⟨_, e2, fun _ z => nomatch z⟩
/-- what no value may lean on: the caller's, the deck, what slots own -/
def Zof (C : DC Ta nm) (σ : L2.St) (E : DEnv) (b : Addr) : Prop := C.Z0 b ∨ C.Dk b ∨ ∃ (i : Nat) (e : DV), E[i]? = some e ∧ e.own = true ∧ σ[i]? = some (some (V.ref b))
abbrev SdKs {κ : Type} (M : Hp) : List (κ × V) → List (κ × PyData) → Prop := Paired fun (p : κ × V) (q : κ × PyData) => p.1 = q.1 ∧ Sd M p.2 q.2
theorem SdKs.sm {κ : Type} {M M' : Hp} (s : Sm M M') {ks : List (κ × V)} {es : List (κ × PyData)} (h : SdKs M ks es) : SdKs M' ks es := Paired.mapP h fun _ _ z => ⟨z.1, z.2.sm s⟩
def SlotOk (C : DC Ta nm) (M H : Hp) (o : Option V) : DV → Prop
  | .d x => ∃ v, o = some v ∧ Sd M v x
  | .deck => ∃ q, C.dk = some q ∧ o = some (.ref q.1)
  | .lst xs => ∃ a vs, o = some (.ref a) ∧ H a = some (.lst vs) ∧ SdL M vs xs ∧ C.He a = none ∧ ¬ C.Z0 a
  | .dic kvs => ∃ a ks, o = some (.ref a) ∧ H a = some (.dK ks) ∧ SdKs M ks kvs ∧ C.He a = none ∧ ¬ C.Z0 a
  | .dct kvs => ∃ a ks, o = some (.ref a) ∧ H a = some (.dT ks) ∧ SdKs M ks kvs ∧ C.He a = none ∧ ¬ C.Z0 a
  | .no => True
/-- a context is well made -/
structure Wf (C : DC Ta nm) : Prop where
  dk : ∀ b, C.Dk b → C.He b ≠ none
  zin : ∀ b, C.Z0 b → C.He b ≠ none
  notb : ∀ b ps, C.He b ≠ some (.tbl ps)
structure St (C : DC Ta nm) (H : Hp) (σ : L2.St) (E : DEnv) : Prop where
  wf : Wf C
  go : Go C C.He H
  ok : Ok C H
  len : σ.length = E.length
  slot : ∀ (i : Nat) (e : DV), E[i]? = some e → ∃ o, σ[i]? = some o ∧ SlotOk C (msk (Zof C σ E) H) H o e
  dist : ∀ (i j : Nat) (e e' : DV) (a : Addr), i ≠ j → E[i]? = some e → e.own = true → E[j]? = some e' → e'.own = true → σ[i]? = some (some (V.ref a)) → σ[j]? ≠ some (some (V.ref a))
theorem Go.msk (g : Go C H H') {Z : Addr → Prop} (h : ∀ b, C.Dk b → Z b) : Sm (msk Z H) (msk Z H') := fun b o e n => by
  obtain ⟨h1, h2⟩ := msk_some.mp e
  exact msk_some.mpr ⟨h1, g b o h2 n fun k => h1 (h b k)⟩
theorem Zof.dk (k : C.Dk b) : Zof C σ E b := .inr (.inl k)
theorem Go.zof (g : Go C H H') : Sm (Zk.msk (Zof C σ E) H) (Zk.msk (Zof C σ E) H') := g.msk fun _ k => Zof.dk k
theorem St.tracked (s : St C H σ E) (h : C.He b ≠ none) : ∃ o, H b = some o ∧ ∀ ps, o ≠ .tbl ps := by
  cases e : C.He b with
  | none => exact absurd e h
  | some o =>
    have n : ∀ ps, o ≠ .tbl ps := fun ps z => s.wf.notb b ps (by rw [e, z])
    by_cases k : C.Dk b
    · exact s.ok.at k
    · exact ⟨o, s.go b o e n k, n⟩
/-- what may not be leaned on stands, and is no table -/
theorem St.zin (s : St C H σ E) (h : Zof C σ E b) : ∃ o, H b = some o ∧ ∀ ps, o ≠ .tbl ps := by
  rcases h with h | h | ⟨i, e, h1, h2, h3⟩
  · exact s.tracked (s.wf.zin b h)
  · exact s.ok.at h
  · obtain ⟨o, ho, k⟩ := s.slot i e h1
    rw [ho] at h3
    cases h3
    cases e with
    | d _ => cases h2
    | deck => cases h2
    | no => cases h2
    | lst xs =>
      obtain ⟨a, vs, ea, h, _⟩ := k
      injection ea with ea
      injection ea with ea
      exact ⟨.lst vs, ea ▸ h, fun ps z => by cases z⟩
    | dic xs =>
      obtain ⟨a, vs, ea, h, _⟩ := k
      injection ea with ea
      injection ea with ea
      exact ⟨.dK vs, ea ▸ h, fun ps z => by cases z⟩
    | dct xs =>
      obtain ⟨a, vs, ea, h, _⟩ := k
      injection ea with ea
      injection ea with ea
      exact ⟨.dT vs, ea ▸ h, fun ps z => by cases z⟩
theorem St.new (s : St C H σ E) (h : H p = none) : ¬ Zof C σ E p := fun z => by
  obtain ⟨o, e, _⟩ := s.zin z
  rw [h] at e
  cases e
theorem St.step (s : St C H σ E) (g : Go C H H') (k : Ok C H') : St C H' σ E := by
  refine ⟨s.wf, s.go.trans g, k, s.len, fun i e he => ?_, s.dist⟩
  obtain ⟨o, ho, z⟩ := s.slot i e he
  refine ⟨o, ho, ?_⟩
  have sm := Go.zof (σ := σ) (E := E) g
  have nd : ∀ a, C.He a = none → ¬ C.Dk a := fun a e k => s.wf.dk a k e
  cases e with
  | d x => obtain ⟨v, e, sd⟩ := z; exact ⟨v, e, sd.sm sm⟩
  | deck => exact z
  | no => trivial
  | lst xs => obtain ⟨a, vs, e, h, sd, n0, n1⟩ := z; exact ⟨a, vs, e, g a _ h (fun _ z => nomatch z) (nd a n0), sd.sm sm, n0, n1⟩
  | dic xs => obtain ⟨a, vs, e, h, sd, n0, n1⟩ := z; exact ⟨a, vs, e, g a _ h (fun _ z => nomatch z) (nd a n0), SdKs.sm sm sd, n0, n1⟩
  | dct xs => obtain ⟨a, vs, e, h, sd, n0, n1⟩ := z; exact ⟨a, vs, e, g a _ h (fun _ z => nomatch z) (nd a n0), SdKs.sm sm sd, n0, n1⟩
end
/-! ### readings over data -/
abbrev DR := DEnv → (PyData → Prop) → Prop
abbrev DRT := DEnv → (Bool → Prop) → Prop
abbrev DRA := DEnv → (List PyData → Prop) → Prop
def tD (Ta : List Addr) (nm : Str) (r : DR) : TE := fun σ H Q => ∃ (C : DC Ta nm) (E : DEnv) (q : PyData → Prop), St C H σ E ∧ r E q ∧ ∀ d v H', Go C H H' → Ok C H' → Sd (msk (Zof C σ E) H') v d → q d → Q v H'
def tDT (Ta : List Addr) (nm : Str) (r : DRT) : TT := fun σ H Q => ∃ (C : DC Ta nm) (E : DEnv) (q : Bool → Prop), St C H σ E ∧ r E q ∧ ∀ b H', Go C H H' → Ok C H' → q b → Q b H'
def tDA (Ta : List Addr) (nm : Str) (r : DRA) : TA := fun σ H Q => ∃ (C : DC Ta nm) (E : DEnv) (q : List PyData → Prop), St C H σ E ∧ r E q ∧ ∀ ds vs H', Go C H H' → Ok C H' → SdL (msk (Zof C σ E) H') vs ds → q ds → Q vs H'
/-- a list or a tuple that is read at once -/
abbrev DRQ := DEnv → (Bool → List PyData → Prop) → Prop
def tDQ (Ta : List Addr) (nm : Str) (r : DRQ) : TE := fun σ H Q => ∃ (C : DC Ta nm) (E : DEnv) (q : Bool → List PyData → Prop), St C H σ E ∧ r E q ∧ ∀ k xs a vs H', Go C H H' → Ok C H' → H' a = some (if k = true then .lst vs else .tup vs) → SdL (msk (Zof C σ E) H') vs xs → (k = false → ¬ Zof C σ E a) → ¬ C.Dk a → q k xs → Q (.ref a) H'
structure DEnds where
  nx : DEnv → Prop
  rt : PyData → Prop
  bk : DEnv → Prop := fun _ => False
  ct : DEnv → Prop := fun _ => False
abbrev DRS := DEnds → DEnv → Prop
/-- the ends over data are the ends -/
structure Real {Ta : List Addr} {nm : Str} (C : DC Ta nm) (D : Ends) (K : DEnds) : Prop where
  nx : ∀ σ H E, St C H σ E → K.nx E → D.nx σ H
  rt : ∀ v H d, Go C C.He H → Ok C H → Sd (msk (fun b => C.Z0 b ∨ C.Dk b) H) v d → K.rt d → D.rt v H
  bk : ∀ σ H E, St C H σ E → K.bk E → D.bk σ H
  ct : ∀ σ H E, St C H σ E → K.ct E → D.ct σ H
def tDS (Ta : List Addr) (nm : Str) (r : DRS) : TS := fun D σ H => ∃ (C : DC Ta nm) (E : DEnv) (K : DEnds), St C H σ E ∧ Real C D K ∧ r K E
section
variable {X : Cx} {e : Expr} {st : Stmt} {sts : List Stmt} {es : List Expr}
theorem PE.weak {t t' : TE} (h : PE X e t) (k : ∀ σ H Q, t' σ H Q → t σ H Q) : PE X e t' := ⟨fun pins s σ H Q I w => h.run pins s σ H Q I (k σ H Q w)⟩
theorem PTx.weak {t t' : TT} (h : L2.PT X e t) (k : ∀ σ H Q, t' σ H Q → t σ H Q) : L2.PT X e t' := ⟨fun pins s σ H Q I w => h.run pins s σ H Q I (k σ H Q w)⟩
theorem PW.weak {t t' : TT} (h : PW X e t) (k : ∀ σ H Q, t' σ H Q → t σ H Q) : PW X e t' := ⟨fun wh pins s σ H Q I w => h.run wh pins s σ H Q I (k σ H Q w)⟩
theorem PA.weak {t t' : TA} (h : PA X es t) (k : ∀ σ H Q, t' σ H Q → t σ H Q) : PA X es t' := ⟨fun pos pins s σ H Q I w => h.run pos pins s σ H Q I (k σ H Q w)⟩
theorem PS.weak {t t' : TS} (h : PS X st t) (k : ∀ D σ H, t' D σ H → t D σ H) : PS X st t' := ⟨fun pins s σ H D I w => h.run pins s σ H D I (k D σ H w)⟩
theorem PSs.weak {t t' : TS} (h : PSs X sts t) (k : ∀ D σ H, t' D σ H → t D σ H) : PSs X sts t' := ⟨fun pins s σ H D I w => h.run pins s σ H D I (k D σ H w)⟩
end
end Zk

set_option maxHeartbeats 4000000
/-! R0: a tuple turned round, t[::-1]. -/
namespace Zk
open PySem PySem.Spec PyProof.Rows L2 HT
section
variable {prog : Program} {w : World} {A : Around} {E : Value → Shared → Prop} {s : Shared}
theorem rev_places (n : Nat) : Builtin.Slice.slicePlaces ((n : Int) - 1) (-1) (-1) = n := by
  unfold Builtin.Slice.slicePlaces
  have h1 : ¬ ((-1 : Int) > 0) := by omega
  simp only [h1, if_false]
  have e : ((n : Int) - 1 - -1 - 1) / - -1 = (n : Int) - 1 := by
    rw [show (- -1 : Int) = 1 by decide, Int.ediv_one]
    omega
  split <;> omega
theorem rev_pick (xs : Array Value) : ((List.range xs.size).filterMap fun (m : Nat) => xs[(((xs.size : Int) - 1) + (m : Int) * (-1)).toNat]?).toArray = xs.toList.reverse.toArray := by
  congr 1
  refine List.ext_getElem? fun i => ?_
  have e : (List.range xs.size).filterMap (fun (m : Nat) => xs[(((xs.size : Int) - 1) + (m : Int) * (-1)).toNat]?) = (List.range xs.size).map fun m => xs.getD (xs.size - 1 - m) .none := by
    have key : ∀ l : List Nat, (∀ m ∈ l, m < xs.size) → l.filterMap (fun (m : Nat) => xs[(((xs.size : Int) - 1) + (m : Int) * (-1)).toNat]?) = l.map fun m => xs.getD (xs.size - 1 - m) .none := by
      intro l
      induction l with
      | nil => intro _; rfl
      | cons m r ih =>
        intro h
        have hm := h m List.mem_cons_self
        rw [List.filterMap_cons, List.map_cons, ih fun y hy => h y (List.mem_cons_of_mem _ hy)]
        have : (((xs.size : Int) - 1) + (m : Int) * (-1)).toNat = xs.size - 1 - m := by omega
        rw [this]
        simp [Array.getD, show xs.size - 1 - m < xs.size by omega]
    exact key _ fun m hm => List.mem_range.mp hm
  rw [e]
  by_cases h : i < xs.size
  · rw [List.getElem?_map, List.getElem?_range h, List.getElem?_reverse (by simpa using h)]
    simp [Array.getD, show xs.size - 1 - i < xs.size by omega]
  · rw [List.getElem?_eq_none (by simpa using h), List.getElem?_eq_none (by simpa using h)]
theorem sliceApplied_rev {sl : Addr} {vl vu vs : Value} {n : Nat} {Q : Int × Int × Nat → Shared → Prop} (hs : s.heap.IsSliceOf sl vl vu vs) (pl : IsPart vl none) (pu : IsPart vu none) (ps : IsPart vs (some (-1)))
    (h : Q ((n : Int) - 1, -1, n) s) : wpAny (model prog w) A (Builtin.Slice.sliceApplied (.ref sl) (pure (n : Int))) Q E s := by
  obtain ⟨os, hos, hcs, hds⟩ := id hs
  unfold Builtin.Slice.sliceApplied Builtin.Slice.sliceFields
  refine wpAny_bind (wpAny_bind (wpAny_field hos hds (x := vl) rfl (wpAny_bind (wpAny_field hos hds (x := vu) rfl (wpAny_bind (wpAny_field hos hds (x := vs) rfl (wpAny_pure ?_)))))))
  refine wpAny_bind (slicePart_ ps ?_)
  show wpAny _ _ (if ((-1 : Int) == 0) = true then _ else _) _ _ s
  rw [if_neg (by decide)]
  refine wpAny_bind (slicePart_ pl (wpAny_bind (slicePart_ pu (wpAny_bind (wpAny_pure ?_)))))
  show wpAny _ _ (match Builtin.Slice.sliceAdjust none none (-1) (n : Int) with | (lo, hi) => pure (lo, (-1 : Int), Builtin.Slice.slicePlaces lo hi (-1))) _ _ s
  show wpAny _ _ (pure ((n : Int) - 1, (-1 : Int), Builtin.Slice.slicePlaces ((n : Int) - 1) (-1) (-1))) _ _ s
  rw [rev_places]
  exact wpAny_pure h
theorem getItem_tuple_rev {t sl : Addr} {items : Array Value} {vl vu vs : Value} {Q : Value → Shared → Prop} (ht : IsTup s.heap t items) (hs : s.heap.IsSliceOf sl vl vu vs) (pl : IsPart vl none) (pu : IsPart vu none) (ps : IsPart vs (some (-1)))
    (h : Q (.ref s.heap.objs.size) { s with heap := s.heap.push { cls := .type "tuple", data := .seq items.toList.reverse.toArray } })
    (hsz : items.size ≤ sizeLine) : wpAny (model prog w) A (getItem (.ref t) (.ref sl)) Q E s := by
  have htake : sizeOk (.seq items.toList.reverse.toArray) := by
    show items.toList.reverse.toArray.size ≤ sizeLine
    rw [List.size_toArray, List.length_reverse, Array.length_toList]
    exact hsz
  obtain ⟨os, hos, hcs, hds⟩ := id hs
  have hTs : s.TypeIs (.ref sl) "slice" := ⟨os, hos, hcs⟩
  unfold getItem
  try with_reducible refine wpAny_holding ?_
  first | refine wpAny_bind (wpAny_pure ?_) | skip
  refine wpAny_bind (wpAny_sequenceKey ht.typeIs (by decide) ?_)
  refine wpAny_bind (wpAny_callSpecial?_slot (name := Str.ofString "__getitem__") ht.typeIs PyProof.Rows.slot_tuple_getitem
    (wpAny_call_entry PyProof.Rows.slot_tuple_getitem ht.typeIs entry_tuple_getitem ?_ (args_tuple_getitem _ _)))
  show wpAny _ _ (Builtin.Tuple.tupleItemsOf (.ref t) >>= _) _ _ s
  refine wpAny_bind (tupleItemsOf_ ht ?_)
  refine wpAny_bind (wpAny_typeOf hTs ?_)
  rw [if_pos (by decide)]
  refine wpAny_bind (sliceApplied_rev hs pl pu ps ?_)
  have hno : ¬ ((((items.size : Int) - 1) == 0 && (-1 : Int) == 1 && items.size == items.size) = true) := by
    rw [show ((-1 : Int) == 1) = false by decide]
    simp
  show wpAny _ _ (if (((items.size : Int) - 1) == 0 && (-1 : Int) == 1 && items.size == items.size) = true then _ else _) _ _ s
  rw [if_neg hno, rev_pick]
  first
    | exact wpAny_bind (m := Builtin.Tuple.tupleExact _) (wpAny_newObj_type (wpAny_pure ⟨_, rfl, wpAny_pure h⟩) htake)
    | exact wpAny_bind (m := Builtin.Tuple.tupleExact _) (wpAny_newObj_type (wpAny_bind (wpAny_pure (wpAny_pure ⟨_, rfl, wpAny_pure h⟩))) htake)
    | exact wpAny_bind (wpAny_bind (m := Builtin.Tuple.tupleExact _) (wpAny_newObj_type (wpAny_pure (wpAny_pure ⟨_, rfl, wpAny_pure h⟩)) htake))
    | exact wpAny_bind (wpAny_bind (m := Builtin.Tuple.tupleExact _) (wpAny_newObj_type (wpAny_pure ⟨_, rfl, wpAny_pure h⟩) htake))
end
section
variable {X : Cx}
def tRevT (K : PySem.W.Frag) (te : TE) : TE := fun σ H Q => te σ H fun x H1 => ∃ a xs, x = .ref a ∧ SqT K H1 a xs ∧ ∀ p, H1 p = none → Q (.ref p) (upd H1 p (.tup xs.reverse))
theorem pe_revT {e : Expr} {te : TE} {k : Nat} {p1 p2 p3 pos : Pos} (he : PE X e te) : PE X (.Subscript e (.Slice none none (some (.UnaryOp .USub (.Constant (.int 1) k p1) p2)) p3) pos) (tRevT X.K te) := by
  refine ⟨fun pins s σ H Q I h => ?_⟩
  refine Subscript_ (thn (he.run pins s σ H _ I h) fun v s1 ⟨x, H1, I1, r1, q1⟩ => ?_)
  obtain ⟨a, xs, ex, hx, q⟩ := q1
  subst ex
  cases r1
  have hst : PO X (some (.UnaryOp .USub (.Constant (.int 1) k p1) p2)) (tPart (tUn (rU fun i => .int (-i)) (tC (.int 1)))) := po_some (pe_un un_neg pe_int)
  refine wpAny_Slice (thn (po_none.run pins s1 σ H1 (fun o H2 => o = none ∧ H2 = H1) I1 ⟨rfl, rfl⟩) fun vl s2 ⟨l, H2, I2, pl, el, e2⟩ => ?_)
  subst el e2
  refine thn (po_none.run pins s2 σ H2 (fun o H3 => o = none ∧ H3 = H2) I2 ⟨rfl, rfl⟩) fun vu s3 ⟨u, H3, I3, pu, eu, e3⟩ => ?_
  subst eu e3
  refine thn (hst.run pins s3 σ H3 (fun o H4 => o = some (-1) ∧ H4 = H3) I3 ⟨1, rfl, -1, rfl, rfl, rfl⟩) fun vs s4 ⟨o, H4, I4, ps, eo, e4⟩ => ?_
  subst eo e4
  have I5 : Inv X pins σ H4 { s4 with heap := s4.heap.push { cls := .type "slice", data := .fields #[vl, vu, vs] } } := I4.kept (t' := s4.toks) fun b ob q => Heap.get?_push_of_some _ q
  obtain ⟨its, r, ht, hz⟩ := I5.tuple hx
  have hlen := r.length
  show wpAny (model X.prog X.w) X.A (subscriptTail e (.Slice none none (some (.UnaryOp .USub (.Constant (.int 1) k p1) p2)) p3) (.ref a) (.ref s4.heap.objs.size)) (EP X pins σ Q) X.xe { s4 with heap := s4.heap.push { cls := .type "slice", data := .fields #[vl, vu, vs] } }
  refine tail_any (ops := [.ref a, .ref s4.heap.objs.size]) ht.typeIs (PyProof.Rows.slot_tuple_getitem.lookup) ?_ (by with_unfolding_all rfl)
  refine getItem_tuple_rev ht (Heap.IsSliceOf.new _ vl vu vs) pl pu ps ?_ (by rw [List.size_toArray]; omega)
  refine ⟨.ref _, _, I5.laid (t' := s4.toks) (o := .tup xs.reverse) (fun b ob q => Heap.get?_push_of_some _ q) (Nat.le_refl _) ?_, rfl, q _ (I5.hok.fresh (Nat.le_refl _))⟩
  exact ⟨by rw [List.length_reverse]; exact hz, _, r.reverse, IsTup.new _ _⟩
end
end Zk

set_option maxHeartbeats 4000000
/-! D0: the deck that a law draws from, as it stands in the heap; sizes of what repr shows. No text of a program here. -/
namespace Zk
open PySem PySem.Spec PyProof.Rows L2

/-! ### small things -/
theorem same_new {H : Hp} {p : Addr} (h : H p = none) (o : HO) : Same H (upd H p o) := fun b u q => by
  rw [upd_ne (ne_of_none q h)]
  exact q
/-- both heaps get the same new object -/
theorem same_both {H0 H : Hp} {p : Addr} (e : Same H0 H) (o : HO) : Same (upd H0 p o) (upd H p o) := fun b u q => by
  by_cases hb : b = p
  · subst hb
    rw [upd_same] at q ⊢
    exact q
  · rw [upd_ne hb] at q ⊢
    exact e _ _ q
theorem same_out {H0 H : Hp} {p : Addr} (e : Same H0 H) (h : H0 p = none) (o : HO) : Same H0 (upd H p o) := fun b u q => by
  rw [upd_ne (ne_of_none q h)]
  exact e _ _ q
theorem sl_small {n : Nat} (h : n ≤ 100000) : n ≤ sizeLine := Nat.le_trans h (by decide)
theorem sl_lt {n : Nat} (h : n < 100000) : n < sizeLine := Nat.lt_of_lt_of_le h (by decide)
theorem ints_dp {K : PySem.W.Frag} {H : Hp} {a : Addr} {ns : List Int} (h : H a = some (.lst (ns.map V.int))) : Dp K H (.ref a) (.list (ns.map PyData.int)) := by
  refine .lst (SqL.of h) ?_
  clear h
  induction ns with
  | nil => exact .nil
  | cons n r ih => exact .cons (.int n) ih
theorem ints_lay : ∀ ns : List Int, PyData.canLayAll0 (ns.map PyData.int) = true
  | [] => by simp [PyData.canLayAll0]
  | n :: r => by simp [PyData.canLayAll0, PyData.canLay0, ints_lay r]
theorem ints_depth : ∀ ns : List Int, PyData.depthAll (ns.map PyData.int) = 0
  | [] => by simp [PyData.depthAll]
  | n :: r => by simp [PyData.depthAll, PyData.depth, ints_depth r]
theorem ints_shaped (ns : List Int) : SeqAt.shaped (.list (ns.map PyData.int)) = true := by
  simp [SeqAt.shaped, PyData.canLay0, ints_lay, PyData.depth, ints_depth]
theorem eqv_nil : ∀ ns : List Int, PyData.eqv (.list (ns.map PyData.int)) (.list []) = ns.isEmpty
  | [] => by simp [PyData.eqv, PyData.eqvAll]
  | n :: r => by simp [PyData.eqv, PyData.eqvAll]

/-! ### the deck -/
def deckL (lf : Addr) (mixed draws : Int) : List (Key × V) := [(.inr ("left" : Str), .ref lf), (.inr ("mixed" : Str), .int mixed), (.inr ("draws" : Str), .int draws)]
theorem k_lm : ¬ (Sum.inr ("left" : Str) : Key) = Sum.inr ("mixed" : Str) := by decide +kernel
theorem k_ld : ¬ (Sum.inr ("left" : Str) : Key) = Sum.inr ("draws" : Str) := by decide +kernel
theorem k_md : ¬ (Sum.inr ("mixed" : Str) : Key) = Sum.inr ("draws" : Str) := by decide +kernel
theorem k_dm : ¬ (Sum.inr ("draws" : Str) : Key) = Sum.inr ("mixed" : Str) := by decide +kernel
section
variable {lf : Addr} {m d x : Int}
theorem deck_left : valV (deckL lf m d) (.inr ("left" : Str)) = some (.ref lf) := valV_pos rfl
theorem deck_mixed : valV (deckL lf m d) (.inr ("mixed" : Str)) = some (.int m) := (valV_neg k_lm).trans (valV_pos rfl)
theorem deck_draws : valV (deckL lf m d) (.inr ("draws" : Str)) = some (.int d) := (valV_neg k_ld).trans ((valV_neg k_md).trans (valV_pos rfl))
theorem put_mixed : putK (deckL lf m d) (.inr ("mixed" : Str)) (.int x) = deckL lf x d := by
  have h : ((deckL lf m d).any fun kv => decide (kv.1 = Sum.inr ("mixed" : Str))) = true := by
    rw [valV_any, deck_mixed]
    rfl
  unfold putK
  rw [if_pos h]
  unfold deckL
  simp only [List.map_cons, List.map_nil, if_neg k_lm, if_neg k_dm, if_true]
theorem put_draws : putK (deckL lf m d) (.inr ("draws" : Str)) (.int x) = deckL lf m x := by
  have h : ((deckL lf m d).any fun kv => decide (kv.1 = Sum.inr ("draws" : Str))) = true := by
    rw [valV_any, deck_draws]
    rfl
  unfold putK
  rw [if_pos h]
  unfold deckL
  simp only [List.map_cons, List.map_nil, if_neg k_ld, if_neg k_md, if_true]
end
/-- a deck stands at dk in H, its list at lf, that has been drawn from at most B times; H0 is what else stands there and does not change -/
structure DeckAt (H0 H : Hp) (dk lf : Addr) (B : Nat) : Prop where
  same : Same H0 H
  off : H0 dk = none
  offl : H0 lf = none
  ex : ∃ (left : List Int) (mixed draws : Int), H dk = some (.dK (deckL lf mixed draws)) ∧ H lf = some (.lst (left.map V.int)) ∧ left.length ≤ 63 ∧ 0 ≤ mixed ∧ mixed < 2 ^ 31 ∧ 0 ≤ draws ∧ draws ≤ B
/-- what a step from H (of it H0 unchanging) to H' (of it H0' unchanging) may do beside the deck: lay new things -/
structure Grow (dk lf : Addr) (H0 H H0' H' : Hp) : Prop where
  same : Same H0 H0'
  frame : ∀ b o, b ≠ dk → b ≠ lf → H b = some o → H' b = some o
  fresh : ∀ b o, H b = some o → H0' b = H0 b
section
variable {H0 H H1 H2 H0' H0'' H' H'' : Hp} {dk lf p : Addr} {B B' : Nat} {o : HO}
theorem DeckAt.at_d (h : DeckAt H0 H dk lf B) : ∃ o, H dk = some o := by
  obtain ⟨_, _, _, e, _⟩ := h.ex
  exact ⟨_, e⟩
theorem DeckAt.at_l (h : DeckAt H0 H dk lf B) : ∃ o, H lf = some o := by
  obtain ⟨_, _, _, _, e, _⟩ := h.ex
  exact ⟨_, e⟩
theorem DeckAt.ned (h : DeckAt H0 H dk lf B) (hp : H p = none) : dk ≠ p := by
  obtain ⟨_, e⟩ := h.at_d
  exact ne_of_none e hp
theorem DeckAt.nel (h : DeckAt H0 H dk lf B) (hp : H p = none) : lf ≠ p := by
  obtain ⟨_, e⟩ := h.at_l
  exact ne_of_none e hp
theorem DeckAt.mono (h : DeckAt H0 H dk lf B) (hb : B ≤ B') : DeckAt H0 H dk lf B' := by
  obtain ⟨left, m, d, h1, h2, h3, h4, h5, h6, h7⟩ := h.ex
  exact ⟨h.same, h.off, h.offl, left, m, d, h1, h2, h3, h4, h5, h6, by omega⟩
/-- the deck's own two objects are as they were, what stands still stands -/
theorem DeckAt.move (h : DeckAt H0 H dk lf B) (s : Same H0' H') (e1 : H0' dk = none) (e2 : H0' lf = none) (d1 : H' dk = H dk) (d2 : H' lf = H lf) : DeckAt H0' H' dk lf B :=
  ⟨s, e1, e2, by rw [d1, d2]; exact h.ex⟩
/-- something new beside the deck -/
theorem DeckAt.new (h : DeckAt H0 H dk lf B) (hp : H p = none) : DeckAt (upd H0 p o) (upd H p o) dk lf B :=
  h.move (same_both h.same o) ((upd_ne (h.ned hp)).trans h.off) ((upd_ne (h.nel hp)).trans h.offl) (upd_ne (h.ned hp)) (upd_ne (h.nel hp))
/-- something new that may change later -/
theorem DeckAt.drop (h : DeckAt H0 H dk lf B) (hp : H p = none) : DeckAt H0 (upd H p o) dk lf B :=
  h.move (h.same.trans (same_new hp o)) h.off h.offl (upd_ne (h.ned hp)) (upd_ne (h.nel hp))
/-- something of our own, not among what stands still, changes -/
theorem DeckAt.change (h : DeckAt H0 H dk lf B) (n : H0 p = none) (n1 : dk ≠ p) (n2 : lf ≠ p) : DeckAt H0 (upd H p o) dk lf B :=
  h.move (same_out h.same n o) h.off h.offl (upd_ne n1) (upd_ne n2)
/-- .. and stands still from here on -/
theorem DeckAt.keep (h : DeckAt H0 H dk lf B) (e : H p = some o) (n1 : dk ≠ p) (n2 : lf ≠ p) : DeckAt (upd H0 p o) H dk lf B := by
  refine h.move (fun b u q => ?_) ((upd_ne n1).trans h.off) ((upd_ne n2).trans h.offl) rfl rfl
  by_cases hb : b = p
  · subst hb
    rw [upd_same] at q
    exact q ▸ e
  · rw [upd_ne hb] at q
    exact h.same _ _ q
theorem DeckAt.free (h : DeckAt H0 H dk lf B) (hp : H p = none) : H0 p = none := h.same.free hp
theorem Grow.refl : Grow dk lf H0 H H0 H := ⟨Same.refl _, fun _ _ _ _ e => e, fun _ _ _ => rfl⟩
theorem Grow.trans (a : Grow dk lf H0 H H0' H') (_ : DeckAt H0 H dk lf B) (h' : DeckAt H0' H' dk lf B') (b : Grow dk lf H0' H' H0'' H'') : Grow dk lf H0 H H0'' H'' where
  same := a.same.trans b.same
  frame := fun x o n1 n2 e => b.frame x o n1 n2 (a.frame x o n1 n2 e)
  fresh := fun x o e => by
    by_cases n1 : x = dk
    · obtain ⟨_, q⟩ := h'.at_d
      rw [b.fresh x _ (n1 ▸ q), a.fresh x o e]
    · by_cases n2 : x = lf
      · obtain ⟨_, q⟩ := h'.at_l
        rw [b.fresh x _ (n2 ▸ q), a.fresh x o e]
      · rw [b.fresh x o (a.frame x o n1 n2 e), a.fresh x o e]
theorem Grow.new (h : DeckAt H0 H dk lf B) (hp : H p = none) : Grow dk lf H0 H (upd H0 p o) (upd H p o) where
  same := same_new (h.free hp) o
  frame := fun b u _ _ e => same_new hp o _ _ e
  fresh := fun b u e => upd_ne (ne_of_none e hp)
theorem Grow.upd' (g : Grow dk lf H0 H H0' H') (n : H p = none) : Grow dk lf H0 H H0' (upd H' p o) := ⟨g.same, fun b u n1 n2 e => (upd_ne (ne_of_none e n)).trans (g.frame b u n1 n2 e), g.fresh⟩
/-- what is new stands still from here on -/
theorem Grow.keep (g : Grow dk lf H0 H H0' H') (n : H p = none) (n0 : H0' p = none) : Grow dk lf H0 H (upd H0' p o) H' :=
  ⟨g.same.trans (same_new n0 o), g.frame, fun b u e => (upd_ne (ne_of_none e n)).trans (g.fresh b u e)⟩
theorem Grow.drop (hp : H p = none) : Grow dk lf H0 H H0 (upd H p o) := ⟨Same.refl _, fun _ _ _ _ e => same_new hp o _ _ e, fun _ _ _ => rfl⟩
end

/-! ### how much repr shows -/
theorem list_len : ∀ ts : List Str, (listText ts).length ≤ piled ts + 2
  | [] => by decide +kernel
  | t :: r => by
    have h := textFrom_length_pos r 1 (("[" : Str) ++ (if (0 : Nat) > 0 then ", " else "" : String) ++ t) (Nat.succ_pos 0)
    have e1 : (listText (t :: r)).length = (textFrom 1 (("[" : Str) ++ (if (0 : Nat) > 0 then ", " else "" : String) ++ t) r).length + 1 := strLen_append _ _
    have e2 : (("[" : Str) ++ (if (0 : Nat) > 0 then ", " else "" : String) ++ t).length = 1 + t.length := by
      rw [strLen_append, strLen_append]
      rfl
    rw [e1, h, e2, piled_cons]
    omega
theorem tuple_len (ts : List Str) : (tupleText ts).length ≤ piled ts + 2 := fmt_text ts
theorem dict_len (ts : List Str) : (dictText ts).length ≤ piled ts + 2 := by
  have e : (dictText ts).length = 1 + (Str.join ", " ts).length + 1 := by
    unfold dictText
    rw [strLen_append, strLen_append]
    rfl
  by_cases h : ts = []
  · subst h
    decide +kernel
  · have := join_length_add ts h
    omega
theorem piled_le {n : Nat} : ∀ {ts : List Str}, (∀ t ∈ ts, t.length ≤ n) → piled ts ≤ ts.length * (n + 2)
  | [], _ => Nat.zero_le _
  | t :: r, h => by
    have h1 := h t List.mem_cons_self
    have h2 := piled_le fun u hu => h u (List.mem_cons_of_mem _ hu)
    rw [piled_cons, List.length_cons, Nat.succ_mul]
    omega
theorem shownAll_len : ∀ ds : List PyData, (PyData.shownAll ds).length = ds.length
  | [] => by simp [PyData.shownAll]
  | d :: r => by simp [PyData.shownAll, shownAll_len r]
theorem shownAll_mem {t : Str} : ∀ {ds : List PyData}, t ∈ PyData.shownAll ds → ∃ d ∈ ds, t = d.shown
  | [], h => by simp [PyData.shownAll] at h
  | d :: r, h => by
    simp only [PyData.shownAll, List.mem_cons] at h
    rcases h with h | h
    · exact ⟨d, List.mem_cons_self, h⟩
    · obtain ⟨e, he, q⟩ := shownAll_mem h
      exact ⟨e, List.mem_cons_of_mem _ he, q⟩
theorem showAll_of : ∀ {ds : List PyData}, (∀ d ∈ ds, d.showable = true) → PyData.showableAll ds = true
  | [], _ => by simp [PyData.showableAll]
  | d :: r, h => by
    simp only [PyData.showableAll, h d List.mem_cons_self, Bool.true_and]
    exact showAll_of fun e he => h e (List.mem_cons_of_mem _ he)
theorem depthAll_of {n : Nat} : ∀ {ds : List PyData}, (∀ d ∈ ds, d.depth ≤ n) → PyData.depthAll ds ≤ n
  | [], _ => by simp [PyData.depthAll]
  | d :: r, h => by
    have h1 := h d List.mem_cons_self
    have h2 := depthAll_of fun e he => h e (List.mem_cons_of_mem _ he)
    simp only [PyData.depthAll]
    omega
/-- d may be shown: at most dp deep, in at most ln signs -/
structure Fine (dp ln : Nat) (d : PyData) : Prop where
  able : d.showable = true
  deep : d.depth ≤ dp
  long : d.shown.length ≤ ln
theorem Fine.mono {a b a' b' : Nat} {d : PyData} (h : Fine a b d) (h1 : a ≤ a') (h2 : b ≤ b') : Fine a' b' d := ⟨h.able, Nat.le_trans h.deep h1, Nat.le_trans h.long h2⟩
theorem fine_list {a b : Nat} {ds : List PyData} (h : ∀ d ∈ ds, Fine a b d) : Fine (a + 1) (ds.length * (b + 2) + 2) (.list ds) where
  able := by simpa [PyData.showable] using showAll_of fun d hd => (h d hd).able
  deep := by
    have := depthAll_of fun d hd => (h d hd).deep
    simp only [PyData.depth]
    omega
  long := by
    have h1 := list_len (PyData.shownAll ds)
    have h2 := piled_le (ts := PyData.shownAll ds) (n := b) fun t ht => by
      obtain ⟨d, hd, e⟩ := shownAll_mem ht
      exact e ▸ (h d hd).long
    rw [shownAll_len] at h2
    simp only [PyData.shown]
    omega
theorem fine_tup {a b : Nat} {ds : List PyData} (h : ∀ d ∈ ds, Fine a b d) : Fine (a + 1) (ds.length * (b + 2) + 2) (.tuple ds) where
  able := by simpa [PyData.showable] using showAll_of fun d hd => (h d hd).able
  deep := by
    have := depthAll_of fun d hd => (h d hd).deep
    simp only [PyData.depth]
    omega
  long := by
    have h1 := tuple_len (PyData.shownAll ds)
    have h2 := piled_le (ts := PyData.shownAll ds) (n := b) fun t ht => by
      obtain ⟨d, hd, e⟩ := shownAll_mem ht
      exact e ▸ (h d hd).long
    rw [shownAll_len] at h2
    simp only [PyData.shown]
    omega
theorem fine_dict2 {a b : Nat} {k : Str} {i j : Int} {d : PyData} (hk : ∀ c ∈ k.cps.toList, c < 16 ^ 8) (hi : i.natAbs.log2 < 1920) (hj : j.natAbs.log2 < 1920) (h : Fine a b d) : Fine (a + 1) (10 * k.length + b + 4000) (.dict [(.str k, d), (.int i, .int j)]) where
  able := by simp [PyData.showable, PyData.showableKv, h.able, hi, hj]
  deep := by
    have := h.deep
    simp only [PyData.depth, PyData.depthKv]
    omega
  long := by
    have h1 := StrLaws.reprText_len k hk
    have h2 := h.long
    have e1 : (Str.ofString (toString i)).length ≤ 1921 := by
      rw [PySem.ofString_length]
      exact int_text_length_le (by decide) hi
    have e2 : (Str.ofString (toString j)).length ≤ 1921 := by
      rw [PySem.ofString_length]
      exact int_text_length_le (by decide) hj
    have e3 : ((": " : Str)).length = 2 := rfl
    simp only [PyData.shown, PyData.shownKv]
    refine Nat.le_trans (dict_len _) ?_
    simp only [piled_cons, piled_nil, strLen_append, e3]
    omega
theorem fine_int {i : Int} (h : i.natAbs.log2 < 1920) : Fine 0 1921 (.int i) where
  able := by simpa [PyData.showable] using h
  deep := by simp [PyData.depth]
  long := by
    simp only [PyData.shown]
    rw [PySem.ofString_length]
    exact int_text_length_le (by decide) h
theorem fine_bool (b : Bool) : Fine 0 5 (.bool b) := by
  refine ⟨by simp [PyData.showable], by simp [PyData.depth], ?_⟩
  cases b <;> (simp only [PyData.shown]; decide +kernel)
theorem fine_none : Fine 0 4 .none := ⟨by simp [PyData.showable], by simp [PyData.depth], by simp only [PyData.shown]; decide +kernel⟩
theorem fine_str {x : Str} (h : ∀ c ∈ x.cps.toList, c < 16 ^ 8) : Fine 0 (10 * x.length + 2) (.str x) :=
  ⟨by simp [PyData.showable], by simp [PyData.depth], by simpa only [PyData.shown] using StrLaws.reprText_len x h⟩
end Zk

set_option maxHeartbeats 1000000
/-! V1: expressions over data. -/
namespace Zk
open PySem PySem.Spec PyProof.Rows L2 GxR
/-! ### small facts -/
theorem SdL.sm' {H H' : Hp} (e : Sm H H') {vs : List V} {ds : List PyData} (h : SdL H vs ds) : SdL H' vs ds := SdL.sm e h
theorem Sd.un {Z : Addr → Prop} {H : Hp} {v : V} {d : PyData} (h : Sd (msk Z H) v d) : Sd H v d := h.sm msk_sm
theorem msk_new {Z : Addr → Prop} {H : Hp} {p : Addr} {o : HO} (h : H p = none) : Same (msk Z H) (msk Z (upd H p o)) := fun b u e => by
  obtain ⟨h1, h2⟩ := msk_some.mp e
  exact msk_some.mpr ⟨h1, same_new h o _ _ h2⟩
theorem msk_same {Z : Addr → Prop} {H H' : Hp} (s : Same H H') : Same (msk Z H) (msk Z H') := fun b u e => by
  obtain ⟨h1, h2⟩ := msk_some.mp e
  exact msk_some.mpr ⟨h1, s _ _ h2⟩
theorem msk_at {Z : Addr → Prop} {H : Hp} {p : Addr} {o : HO} (z : ¬ Z p) : msk Z (upd H p o) p = some o := msk_some.mpr ⟨z, upd_same⟩
section
variable {Ta : List Addr} {nm : Str} {C : DC Ta nm} {H H' : Hp} {σ : L2.St} {E : DEnv} {p : Addr} {o : HO}
theorem St.lay (s : St C H σ E) (h : H p = none) (o : HO) : St C (upd H p o) σ E := s.step (Same.go (same_new h o)) (s.ok.same (same_new h o))
end
/-! ### names, constants -/
section
variable {X : Cx} {Ta : List Addr} {nm : Str} {pos : Pos} {x : Str}
theorem St.data {Ta : List Addr} {nm : Str} {C : DC Ta nm} {H : Hp} {σ : L2.St} {E : DEnv} (s : St C H σ E) {i : Nat} {d : PyData} (h : E[i]? = some (.d d)) : ∃ v, σ[i]? = some (some v) ∧ Sd (msk (Zof C σ E) H) v d := by
  obtain ⟨o, e, v, e2, sd⟩ := s.slot i _ h
  exact ⟨v, by rw [e, e2], sd⟩
@[simp] def rV (i : Nat) : DR := fun E q => ∃ d, E[i]? = some (.d d) ∧ q d
theorem dx_name {i : Nat} (h : PE X (.Name x pos) (tVar i)) : PE X (.Name x pos) (tD Ta nm (rV i)) := PE.weak h fun σ H Q ⟨C, E, q, s, ⟨d, e, hq⟩, k⟩ => by
  obtain ⟨v, e2, sd⟩ := s.data e
  exact ⟨v, e2, k d v H Go.refl s.ok sd hq⟩
theorem dx_var (i : Nat) (hN : X.N[i]? = some x := by rfl) (hv : Vis X.env.scope x := by first | exact Or.inl rfl | exact Or.inr (Or.inl rfl) | exact Or.inr (Or.inr rfl)) (hd : (x == ("__debug__" : Str)) = false := by decide +kernel) (hcd : (x == ("__classdict__" : Str)) = false := by decide +kernel) : PE X (.Name x pos) (tD Ta nm (rV i)) := dx_name (pe_var hN hv hd hcd)
@[simp] def rC (d : PyData) : DR := fun _ q => q d
theorem dx_int {i : Int} {j} : PE X (.Constant (.int i) j pos) (tD Ta nm (rC (.int i))) := PE.weak pe_int fun _ H _ ⟨_, _, _, s, hq, k⟩ => k _ _ H Go.refl s.ok (.int i) hq
theorem dx_bl {b : Bool} {j} : PE X (.Constant (.bool b) j pos) (tD Ta nm (rC (.bool b))) := PE.weak pe_bl fun _ H _ ⟨_, _, _, s, hq, k⟩ => k _ _ H Go.refl s.ok (.bl b) hq
theorem dx_non {j} : PE X (.Constant .none j pos) (tD Ta nm (rC .none)) := PE.weak pe_non fun _ H _ ⟨_, _, _, s, hq, k⟩ => k _ _ H Go.refl s.ok .non hq
theorem dx_str {z : Str} {j} : PE X (.Constant (.str z) j pos) (tD Ta nm (rC (.str z))) := PE.weak pe_str fun _ H _ ⟨_, _, _, s, hq, k⟩ => k _ _ H Go.refl s.ok (.str z) hq
end
/-! ### operators -/
abbrev DG2 := PyData → PyData → (PyData → Prop) → Prop
/-- an operation by values is one over data -/
def OpS (r : R2) (g : DG2) : Prop := ∀ (Z : Addr → Prop) (H : Hp) (x y : V) (d e : PyData) (q : PyData → Prop) (Q : VK), (∀ p, H p = none → ¬ Z p) → Sd (msk Z H) x d → Sd (msk Z H) y e → g d e q → (∀ d' v H', Same H H' → Sd (msk Z H') v d' → q d' → Q v H') → r x y H Q
section
variable {X : Cx} {Ta : List Addr} {nm : Str} {a b : Expr} {ra rb : DR} {rt : DRT} {pos : Pos} {r : R2} {g : DG2}
@[simp] def rOp (g : DG2) (ra rb : DR) : DR := fun E q => ra E fun x => rb E fun y => g x y q
theorem op_run (s : OpS r g) : ∀ σ H Q, tD Ta nm (rOp g ra rb) σ H Q → tOp r (tD Ta nm ra) (tD Ta nm rb) σ H Q := fun σ H Q ⟨C, E, q, st, hr, k⟩ =>
  ⟨C, E, _, st, hr, fun x v H1 g1 k1 sd hx => ⟨C, E, _, st.step g1 k1, hx, fun y u H2 g2 k2 sd2 hy => s (Zof C σ E) H2 v u x y q Q (fun p hp => ((st.step g1 k1).step g2 k2).new hp) (sd.sm (Go.zof g2)) sd2 hy
    fun d' v' H' s' sd' hq => k d' v' H' ((g1.trans g2).trans (Same.go s')) (k2.same s') sd' hq⟩⟩
theorem dx_op {op : Operator} (ho : OpR X (binaryOp op) r) (s : OpS r g) (ha : PE X a (tD Ta nm ra)) (hb : PE X b (tD Ta nm rb)) : PE X (.BinOp a op b pos) (tD Ta nm (rOp g ra rb)) := PE.weak (pe_op ho ha hb) (op_run s)
theorem dx_cmp {op : CmpOp} (ho : OpR X (compareOp op) r) (s : OpS r g) (ha : PE X a (tD Ta nm ra)) (hb : PE X b (tD Ta nm rb)) (hm : behindInMarks op b = false) : PE X (.Compare a [op] [b] pos) (tD Ta nm (rOp g ra rb)) := PE.weak (pe_cmpR ho ha hb hm) (op_run s)
/-- subscripts -/
theorem dx_ix (ho : IxR X r) (s : OpS r g) (ha : PE X a (tD Ta nm ra)) (hb : PE X b (tD Ta nm rb)) (hs : PlainIx b) : PE X (.Subscript a b pos) (tD Ta nm (rOp g ra rb)) := PE.weak (pe_ix ho ha hb hs) (op_run s)
theorem OpS.flat {h : V → V → VK → Hp → Prop} : True := trivial
@[simp] def gI (f : Int → Int → PyData) : DG2 := fun d e q => ∃ i j, d = .int i ∧ e = .int j ∧ q (f i j)
@[simp] def gIC (Cd : Int → Int → Prop) (f : Int → Int → PyData) : DG2 := fun d e q => ∃ i j, d = .int i ∧ e = .int j ∧ Cd i j ∧ q (f i j)
theorem sd_int {M : Hp} {v : V} {i : Int} (h : Sd M v (.int i)) : v = .int i := by cases h; rfl
theorem sd_str {M : Hp} {v : V} {i : Str} (h : Sd M v (.str i)) : v = .str i := by cases h; rfl
theorem sd_bool {M : Hp} {v : V} {i : Bool} (h : Sd M v (.bool i)) : v = .bl i := by cases h; rfl
theorem sd_none {M : Hp} {v : V} (h : Sd M v .none) : v = .non := by cases h; rfl
theorem sd_tup {M : Hp} {v : V} {xs : List PyData} (h : Sd M v (.tuple xs)) : ∃ a vs, v = .ref a ∧ M a = some (.tup vs) ∧ SdL M vs xs := by cases h; exact ⟨_, _, rfl, by assumption, by assumption⟩
theorem sd_lst {M : Hp} {v : V} {xs : List PyData} (h : Sd M v (.list xs)) : ∃ a vs, v = .ref a ∧ M a = some (.lst vs) ∧ SdL M vs xs := by cases h; exact ⟨_, _, rfl, by assumption, by assumption⟩
theorem opS_int (f : Int → Int → Int) : OpS (rI0 fun i j => .int (f i j)) (gI fun i j => .int (f i j)) := fun Z H x y d e q Q _ hx hy ⟨i, j, e1, e2, hq⟩ k => by
  subst e1 e2
  exact ⟨i, j, sd_int hx, sd_int hy, k _ _ H (Same.refl _) (.int _) hq⟩
theorem opS_bool (f : Int → Int → Bool) : OpS (rI0 fun i j => .bl (f i j)) (gI fun i j => .bool (f i j)) := fun Z H x y d e q Q _ hx hy ⟨i, j, e1, e2, hq⟩ k => by
  subst e1 e2
  exact ⟨i, j, sd_int hx, sd_int hy, k _ _ H (Same.refl _) (.bl _) hq⟩
theorem opS_intC (Cd : Int → Int → Prop) (f : Int → Int → Int) : OpS (rI Cd fun i j => .int (f i j)) (gIC Cd fun i j => .int (f i j)) := fun Z H x y d e q Q _ hx hy ⟨i, j, e1, e2, hc, hq⟩ k => by
  subst e1 e2
  exact ⟨i, j, sd_int hx, sd_int hy, hc, k _ _ H (Same.refl _) (.int _) hq⟩
@[simp] def gCat : DG2 := fun d e q => ∃ x y, d = .str x ∧ e = .str y ∧ x.length + y.length ≤ sizeLine ∧ q (.str (x ++ y))
theorem opS_cat : OpS (fun x y H Q => ∃ i j, x = .str i ∧ y = .str j ∧ i.length + j.length ≤ sizeLine ∧ Q (.str (i ++ j)) H) gCat := fun Z H x y d e q Q _ hx hy ⟨i, j, e1, e2, hl, hq⟩ k => by
  subst e1 e2
  exact ⟨i, j, sd_str hx, sd_str hy, hl, k _ _ H (Same.refl _) (.str _) hq⟩
/-- == of scalars -/
def scD : PyData → PyData → Bool
  | .none, .none => true | .none, .int _ => true | .int _, .none => true | .none, .bool _ => true | .bool _, .none => true | .none, .str _ => true | .str _, .none => true
  | .int _, .int _ => true | .bool _, .bool _ => true | .str _, .str _ => true
  | .int _, .str _ => true | .str _, .int _ => true | .bool _, .str _ => true | .str _, .bool _ => true
  | _, _ => false
theorem scD_scal {M : Hp} {x y : V} {d e : PyData} (hx : Sd M x d) (hy : Sd M y e) (h : scD d e = true) : scal x y = true ∧ decide (x = y) = PyData.eqv d e := by
  cases hx <;> cases hy <;> first | (exact (Bool.false_ne_true h).elim) | (refine ⟨rfl, ?_⟩; simp [PyData.eqv]; done) | (refine ⟨rfl, ?_⟩; simp [PyData.eqv, Bool.beq_eq_decide_eq]; done)
@[simp] def gEq (n : Bool) : DG2 := fun d e q => scD d e = true ∧ q (.bool (n != PyData.eqv d e))
theorem opS_eq : OpS rEq (gEq false) := fun Z H x y d e q Q _ hx hy ⟨h, hq⟩ k => by
  obtain ⟨h1, h2⟩ := scD_scal hx hy h
  refine ⟨h1, k _ _ H (Same.refl _) (.bl _) ?_⟩
  rw [h2]
  simpa using hq
theorem opS_ne : OpS rNe (gEq true) := fun Z H x y d e q Q _ hx hy ⟨h, hq⟩ k => by
  obtain ⟨h1, h2⟩ := scD_scal hx hy h
  refine ⟨h1, k _ _ H (Same.refl _) (.bl _) ?_⟩
  rw [h2]
  simpa using hq
end
end Zk

set_option maxHeartbeats 1000000
/-! V2: tests, arguments, displays, calls, over data. -/
namespace Zk
open PySem PySem.Spec PyProof.Rows L2 GxR
section
variable {X : Cx} {Ta : List Addr} {nm : Str} {a b c e : Expr} {es rest : List Expr} {ra rb rc r : DR} {rt rt' : DRT} {rs : DRA} {pos : Pos}
/-! ### tests -/
@[simp] def rTest (r : DR) : DRT := fun E q => r E fun d => ∃ b, d = .bool b ∧ q b
theorem dt_val (h : PE X e (tD Ta nm r)) (he : ∀ whole, isTrue e X.env whole = (do let v ← whole; standAt e.pos; holding [v] (truthy v)) := by intro _; rfl) : L2.PT X e (tDT Ta nm (rTest r)) := PTx.weak (pt_val h he) fun σ H Q ⟨C, E, q, s, hr, k⟩ =>
  ⟨C, E, _, s, hr, fun d v H1 g1 k1 sd ⟨b, e, hq⟩ => by
    subst e
    exact ⟨b, sd_bool sd, k b H1 g1 k1 hq⟩⟩
theorem dt_cmp {op : CmpOp} {r2 : R2} {g : DG2} (ho : OpR X (compareOp op) r2) (s : OpS r2 g) (ha : PE X a (tD Ta nm ra)) (hb : PE X b (tD Ta nm rb)) (hm : behindInMarks op b = false) : L2.PT X (.Compare a [op] [b] pos) (tDT Ta nm (rTest (rOp g ra rb))) :=
  PTx.weak (pt_cmpR ho ha hb hm) fun σ H Q ⟨C, E, q, st, hr, k⟩ =>
    op_run s σ H (fun x H1 => ∃ c, x = .bl c ∧ Q c H1) ⟨C, E, _, st, hr, fun d v H1 g1 k1 sd ⟨b, e, hq⟩ => by
      subst e
      exact ⟨b, sd_bool sd, k b H1 g1 k1 hq⟩⟩
@[simp] def rtNot (t : DRT) : DRT := fun E q => t E fun b => q (!b)
theorem dt_not (h : L2.PT X a (tDT Ta nm rt)) : L2.PT X (.UnaryOp .Not a pos) (tDT Ta nm (rtNot rt)) := PTx.weak (pt_not h) fun σ H Q ⟨C, E, q, s, hr, k⟩ => ⟨C, E, _, s, hr, fun b H1 g1 k1 hq => k _ H1 g1 k1 hq⟩
@[simp] def rtAnd (t u : DRT) : DRT := fun E q => t E fun b => if b = true then u E q else q false
@[simp] def rtOr (t u : DRT) : DRT := fun E q => t E fun b => if b = true then q true else u E q
theorem dw_and1 (h : L2.PT X a (tDT Ta nm rt)) : PW X (.BoolOp .And [a] pos) (tDT Ta nm rt) := pw_and1 h
theorem dw_or1 (h : L2.PT X a (tDT Ta nm rt)) : PW X (.BoolOp .Or [a] pos) (tDT Ta nm rt) := pw_or1 h
theorem dw_and (h : L2.PT X a (tDT Ta nm rt)) (h' : PW X (.BoolOp .And (b :: rest) pos) (tDT Ta nm rt')) : PW X (.BoolOp .And (a :: b :: rest) pos) (tDT Ta nm (rtAnd rt rt')) := PW.weak (pw_and h h') fun σ H Q ⟨C, E, q, s, hr, k⟩ =>
  ⟨C, E, _, s, hr, fun b H1 g1 k1 hq => by
    cases b with
    | true => exact ⟨C, E, q, s.step g1 k1, hq, fun b H2 g2 k2 hq => k b H2 (g1.trans g2) k2 hq⟩
    | false => exact k false H1 g1 k1 hq⟩
theorem dw_or (h : L2.PT X a (tDT Ta nm rt)) (h' : PW X (.BoolOp .Or (b :: rest) pos) (tDT Ta nm rt')) : PW X (.BoolOp .Or (a :: b :: rest) pos) (tDT Ta nm (rtOr rt rt')) := PW.weak (pw_or h h') fun σ H Q ⟨C, E, q, s, hr, k⟩ =>
  ⟨C, E, _, s, hr, fun b H1 g1 k1 hq => by
    cases b with
    | false => exact ⟨C, E, q, s.step g1 k1, hq, fun b H2 g2 k2 hq => k b H2 (g1.trans g2) k2 hq⟩
    | true => exact k true H1 g1 k1 hq⟩
/-! ### bools as values -/
@[simp] def rAnd (t u : DR) : DR := fun E q => t E fun d => ∃ b, d = .bool b ∧ if b = true then u E q else q (.bool false)
@[simp] def rOr (t u : DR) : DR := fun E q => t E fun d => ∃ b, d = .bool b ∧ if b = true then q (.bool true) else u E q
theorem dx_one {op} (h : PE X a (tD Ta nm r)) : PE X (.BoolOp op [a] pos) (tD Ta nm r) := pe_one h
theorem dx_and (h : PE X a (tD Ta nm ra)) (h' : PE X (.BoolOp .And (b :: rest) pos) (tD Ta nm rb)) : PE X (.BoolOp .And (a :: b :: rest) pos) (tD Ta nm (rAnd ra rb)) := PE.weak (pe_and h h') fun σ H Q ⟨C, E, q, s, hr, k⟩ =>
  ⟨C, E, _, s, hr, fun d v H1 g1 k1 sd ⟨b, e, hq⟩ => by
    subst e
    refine ⟨b, sd_bool sd, ?_⟩
    cases b with
    | true => exact ⟨C, E, q, s.step g1 k1, hq, fun d v H2 g2 k2 sd hq => k d v H2 (g1.trans g2) k2 sd hq⟩
    | false => exact k _ _ H1 g1 k1 (.bl false) hq⟩
theorem dx_or (h : PE X a (tD Ta nm ra)) (h' : PE X (.BoolOp .Or (b :: rest) pos) (tD Ta nm rb)) : PE X (.BoolOp .Or (a :: b :: rest) pos) (tD Ta nm (rOr ra rb)) := PE.weak (pe_or h h') fun σ H Q ⟨C, E, q, s, hr, k⟩ =>
  ⟨C, E, _, s, hr, fun d v H1 g1 k1 sd ⟨b, e, hq⟩ => by
    subst e
    refine ⟨b, sd_bool sd, ?_⟩
    cases b with
    | false => exact ⟨C, E, q, s.step g1 k1, hq, fun d v H2 g2 k2 sd hq => k d v H2 (g1.trans g2) k2 sd hq⟩
    | true => exact k _ _ H1 g1 k1 (.bl true) hq⟩
@[simp] def rNot (r : DR) : DR := fun E q => r E fun d => ∃ b, d = .bool b ∧ q (.bool (!b))
theorem dx_not (h : PE X a (tD Ta nm r)) : PE X (.UnaryOp .Not a pos) (tD Ta nm (rNot r)) := PE.weak (pe_not h) fun σ H Q ⟨C, E, q, s, hr, k⟩ =>
  ⟨C, E, _, s, hr, fun d v H1 g1 k1 sd ⟨b, e, hq⟩ => by
    subst e
    exact ⟨b, sd_bool sd, k _ _ H1 g1 k1 (.bl _) hq⟩⟩
@[simp] def rIf (t : DRT) (ra rb : DR) : DR := fun E q => t E fun b => if b = true then ra E q else rb E q
theorem dx_if (hc : L2.PT X c (tDT Ta nm rt)) (ha : PE X a (tD Ta nm ra)) (hb : PE X b (tD Ta nm rb)) : PE X (.IfExp c a b pos) (tD Ta nm (rIf rt ra rb)) := PE.weak (pe_ifExp hc ha hb) fun σ H Q ⟨C, E, q, s, hr, k⟩ =>
  ⟨C, E, _, s, hr, fun b H1 g1 k1 hq => by
    cases b with
    | true => exact ⟨C, E, q, s.step g1 k1, hq, fun d v H2 g2 k2 sd hq => k d v H2 (g1.trans g2) k2 sd hq⟩
    | false => exact ⟨C, E, q, s.step g1 k1, hq, fun d v H2 g2 k2 sd hq => k d v H2 (g1.trans g2) k2 sd hq⟩⟩
@[simp] def rChain (g g' : DG2) (ra rb rc : DR) : DR := fun E q => ra E fun x => rb E fun y => g x y fun z => ∃ k, z = .bool k ∧ if k = true then rc E fun w => g' y w q else q (.bool false)
theorem dx_chain {op op' : CmpOp} {r r' : R2} {g g' : DG2} (ho : OpR X (compareOp op) r) (ho' : OpR X (compareOp op') r') (s1 : OpS r g) (s2 : OpS r' g') (ha : PE X a (tD Ta nm ra)) (hb : PE X b (tD Ta nm rb)) (hc : PE X c (tD Ta nm rc))
    (hm : lastMarks [op, op'] [b, c] = false := by with_unfolding_all rfl) : PE X (.Compare a [op, op'] [b, c] pos) (tD Ta nm (rChain g g' ra rb rc)) := PE.weak (pe_chain ho ho' ha hb hc hm) fun σ H Q ⟨C, E, q, st, hr, k⟩ =>
  ⟨C, E, _, st, hr, fun x v H1 g1 k1 sd hx => ⟨C, E, _, st.step g1 k1, hx, fun y u H2 g2 k2 sd2 hy =>
    s1 (Zof C σ E) H2 v u x y _ _ (fun p hp => ((st.step g1 k1).step g2 k2).new hp) (sd.sm (Go.zof g2)) sd2 hy fun z v' H3 s3 sz ⟨kk, e, hq⟩ => by
      subst e
      have st3 := ((st.step g1 k1).step g2 k2).step (Same.go s3) (k2.same s3)
      refine ⟨kk, sd_bool sz, ?_⟩
      cases kk with
      | true => exact ⟨C, E, _, st3, hq, fun w vw H4 g4 k4 sw hw => s2 (Zof C σ E) H4 u vw y w q Q (fun p hp => (st3.step g4 k4).new hp) ((sd2.same (msk_same s3)).sm (Go.zof g4)) sw hw
          fun d' v' H5 s5 sd5 hq => k d' v' H5 ((((g1.trans g2).trans (Same.go s3)).trans g4).trans (Same.go s5)) (k4.same s5) sd5 hq⟩
      | false => exact k _ _ H3 ((g1.trans g2).trans (Same.go s3)) (k2.same s3) (.bl false) hq⟩⟩
/-! ### arguments, displays -/
@[simp] def raNil : DRA := fun _ q => q []
@[simp] def raCons (r : DR) (rs : DRA) : DRA := fun E q => r E fun d => rs E fun ds => q (d :: ds)
theorem da_nil : PA X [] (tDA Ta nm raNil) := PA.weak pa_nil fun σ H Q ⟨C, E, q, s, hr, k⟩ => k [] [] H Go.refl s.ok .nil hr
theorem da_cons (h : PE X e (tD Ta nm r)) (h' : PA X es (tDA Ta nm rs)) (hs : starEach (e :: es) X.env = (false, eval e X.env) :: starEach es X.env := by rfl) : PA X (e :: es) (tDA Ta nm (raCons r rs)) := PA.weak (pa_cons h h' hs) fun σ H Q ⟨C, E, q, s, hr, k⟩ =>
  ⟨C, E, _, s, hr, fun d v H1 g1 k1 sd hq => ⟨C, E, _, s.step g1 k1, hq, fun ds vs H2 g2 k2 sds hq => k (d :: ds) (v :: vs) H2 (g1.trans g2) k2 (.cons (sd.sm (Go.zof g2)) sds) hq⟩⟩
@[simp] def rTup (rs : DRA) : DR := fun E q => rs E fun ds => ds.length ≤ sizeLine ∧ q (.tuple ds)
@[simp] def rLst (rs : DRA) : DR := fun E q => rs E fun ds => ds.length ≤ sizeLine ∧ q (.list ds)
theorem dx_tup {x1} (h : PA X es (tDA Ta nm rs)) : PE X (.Tuple es x1 pos) (tD Ta nm (rTup rs)) := PE.weak (pe_tup h) fun σ H Q ⟨C, E, q, s, hr, k⟩ =>
  ⟨C, E, _, s, hr, fun ds vs H1 g1 k1 sds ⟨hl, hq⟩ => ⟨by rw [sds.len]; exact hl, fun p hp => k _ _ _ (g1.trans (Same.go (same_new hp _))) (k1.same (same_new hp _)) (.tup (msk_at ((s.step g1 k1).new hp)) (SdL.same (msk_new hp) sds)) hq⟩⟩
theorem dx_lst (h : PA X es (tDA Ta nm rs)) : PE X (.List es pos) (tD Ta nm (rLst rs)) := PE.weak (pe_lst h) fun σ H Q ⟨C, E, q, s, hr, k⟩ =>
  ⟨C, E, _, s, hr, fun ds vs H1 g1 k1 sds ⟨hl, hq⟩ => ⟨by rw [sds.len]; exact hl, fun p hp => k _ _ _ (g1.trans (Same.go (same_new hp _))) (k1.same (same_new hp _)) (.lst (msk_at ((s.step g1 k1).new hp)) (SdL.same (msk_new hp) sds)) hq⟩⟩
theorem dx_dic0 : PE X (.Dict [] [] pos) (tD Ta nm (rC (.dict []))) := PE.weak pe_dnewK fun σ H Q ⟨C, E, q, s, hr, k⟩ =>
  fun p hp => k _ _ _ (Same.go (same_new hp _)) (s.ok.same (same_new hp _)) (.dic (msk_at (s.new hp)) .nil) hr
/-! ### built-ins -/
abbrev DGC := List PyData → (PyData → Prop) → Prop
def CallS (r : List V → Hp → VK → Prop) (g : DGC) : Prop := ∀ (Z : Addr → Prop) (H : Hp) (xs : List V) (ds : List PyData) (q : PyData → Prop) (Q : VK), (∀ p, H p = none → ¬ Z p) → SdL (msk Z H) xs ds → g ds q → (∀ d' v H', Same H H' → Sd (msk Z H') v d' → q d' → Q v H') → r xs H Q
@[simp] def rCall (g : DGC) (rs : DRA) : DR := fun E q => rs E fun ds => g ds q
theorem call_run {r : List V → Hp → VK → Prop} {g : DGC} (s : CallS r g) : ∀ σ H Q, tD Ta nm (rCall g rs) σ H Q → tCB r (tDA Ta nm rs) σ H Q := fun σ H Q ⟨C, E, q, st, hr, k⟩ =>
  ⟨C, E, _, st, hr, fun ds vs H1 g1 k1 sds hq => s (Zof C σ E) H1 vs ds q Q (fun p hp => (st.step g1 k1).new hp) sds hq fun d' v H2 s2 sd hq => k d' v H2 (g1.trans (Same.go s2)) (k1.same s2) sd hq⟩
theorem dx_callB {id : String} {r : List V → Hp → VK → Prop} {g : DGC} {x : Str} {p : Pos} (hc : CallR X (.builtin id) r) (s : CallS r g) (hg : Gl X x) (hm : X.mg x = none) (hv : bootBuiltins x = some (.builtin id)) (ha : PA X (e :: es) (tDA Ta nm rs)) (hn : x ≠ "__name__" := by decide +kernel) (hdb : (x == ("__debug__" : Str)) = false := by decide +kernel)
    (he : starEach (e :: es) X.env = (false, eval e X.env) :: starEach es X.env := by rfl) (hpl : (backTo pos (starEach es X.env)).any (·.1) = false := by rfl) : PE X (.Call (.Name x p) (e :: es) [] pos) (tD Ta nm (rCall g rs)) := PE.weak (pe_callB hc hg hm hv ha hn hdb he hpl) (call_run s)
theorem dx_callT {T : String} {r : List V → Hp → VK → Prop} {g : DGC} {x : Str} {p : Pos} (hc : CallR X (.type T) r) (s : CallS r g) (hg : Gl X x) (hm : X.mg x = none) (hv : bootBuiltins x = some (.type T)) (ha : PA X (e :: es) (tDA Ta nm rs)) (hn : x ≠ "__name__" := by decide +kernel) (hdb : (x == ("__debug__" : Str)) = false := by decide +kernel)
    (he : starEach (e :: es) X.env = (false, eval e X.env) :: starEach es X.env := by rfl) (hpl : (backTo pos (starEach es X.env)).any (·.1) = false := by rfl) : PE X (.Call (.Name x p) (e :: es) [] pos) (tD Ta nm (rCall g rs)) := PE.weak (pe_callTy hc hg hm hv ha hn hdb he hpl) (call_run s)
/-- isinstance(e, T) -/
@[simp] def rIs (f : PyData → Bool) (r : DR) : DR := fun E q => r E fun d => q (.bool (f d))
theorem dx_is {nmT : Str} {n : String} {f : PyData → Bool} {p p2 : Pos} (t : IsTy n f) (h : PE X e (tD Ta nm r)) (hg : Gl X "isinstance") (hm : X.mg "isinstance" = none) (hg2 : Gl X nmT) (hm2 : X.mg nmT = none) (hv2 : bootBuiltins nmT = some (.type n)) (hn2 : nmT ≠ "__name__" := by decide +kernel) (hd2 : (nmT == ("__debug__" : Str)) = false := by decide +kernel)
    (hst : starEach (e :: [.Name nmT p2]) X.env = (false, eval e X.env) :: starEach [.Name nmT p2] X.env := by rfl) (hpl : (backTo pos (starEach [.Name nmT p2] X.env)).any (·.1) = false := by rfl) :
    PE X (.Call (.Name "isinstance" p) [e, .Name nmT p2] [] pos) (tD Ta nm (rIs f r)) := PE.weak (pe_isD t h hg hm hg2 hm2 hv2 hn2 hd2 hst hpl) fun σ H Q ⟨C, E, q, s, hr, k⟩ =>
  ⟨C, E, _, s, hr, fun d v H1 g1 k1 sd hq => ⟨v, d, rfl, sd.un, k _ _ H1 g1 k1 (.bl _) hq⟩⟩
/-! ### own defs -/
/-- a def's promise over data -/
abbrev DFn := List PyData → (PyData → Prop) → Prop
def spD' (Ta : List Addr) (R : DFn) : Sp := fun vs H Q _ => ∃ (Z : Addr → Prop) (ds : List PyData) (q : PyData → Prop), (∀ b, Z b → ∃ o, H b = some o ∧ ∀ ps, o ≠ .tbl ps) ∧ SdL (msk Z H) vs ds ∧ Tb Ta H ∧ R ds q ∧ ∀ d v H', Sm H H' → Tb Ta H' → Sd (msk Z H') v d → q d → Q v H'
def spDk (Ta : List Addr) (nm : Str) (R : DFn) : Sp := fun vs H Q _ => ∃ (Z : Addr → Prop) (dk lf : Addr) (ws : List V) (ds : List PyData) (q : PyData → Prop), vs = .ref dk :: ws ∧ (∀ b, Z b → ∃ o, H b = some o ∧ ∀ ps, o ≠ .tbl ps) ∧ Z dk ∧ Z lf ∧ DeckOk nm H dk lf ∧ SdL (msk Z H) ws ds ∧ Tb Ta H ∧ R ds q ∧
  ∀ d v H', (∀ b o, H b = some o → (∀ ps, o ≠ .tbl ps) → b ≠ dk → b ≠ lf → H' b = some o) → DeckOk nm H' dk lf → Tb Ta H' → Sd (msk Z H') v d → q d → Q v H'
@[simp] def rFn (R : DFn) (rs : DRA) : DR := fun E q => rs E fun ds => R ds q
theorem fn_run {R : DFn} : ∀ σ H Q, tD Ta nm (rFn R rs) σ H Q → (tDA Ta nm rs) σ H fun vs H1 => spD' Ta R vs H1 Q E0 := fun σ H Q ⟨C, E, q, st, hr, k⟩ =>
  ⟨C, E, _, st, hr, fun ds vs H1 g1 k1 sds hq => ⟨Zof C σ E, ds, q, fun b hb => (st.step g1 k1).zin hb, sds, k1.tb, hq, fun d v H2 s2 t2 sd hq => k d v H2 (g1.trans (Sm.go s2)) (k1.sm s2 t2) sd hq⟩⟩
variable {k : Nat} {f : Addr} {fd : FuncData} {ps ks : List Str} {R : DFn} {x : Str} {p : Pos}
theorem dx_call (F : FnOk X.prog X.w X.K X.mg X.base CX0 k f fd ps (spD' Ta R)) (hr : Room k X.A) (hg : Gl X x) (hm : X.mg x = some (.ref f)) (hk : PySem.W.keepIn X.K (.ref f) = true) (hb : Binds X.K fd ps [])
    (ha : PA X (e :: es) (tDA Ta nm rs)) (hdb : (x == ("__debug__" : Str)) = false := by decide +kernel) (he : starEach (e :: es) X.env = (false, eval e X.env) :: starEach es X.env := by rfl) (hpl : (backTo pos (starEach es X.env)).any (·.1) = false := by rfl) :
    PE X (.Call (.Name x p) (e :: es) [] pos) (tD Ta nm (rFn R rs)) := PE.weak (pe_call F hr hg hm hk hb .nil (E := E0) pass0 ha hdb he hpl) fun σ H Q h => by
  have := fn_run σ H Q h
  show (tDA Ta nm rs) σ H fun vs H1 => spD' Ta R (vs ++ []) H1 Q E0
  simpa only [List.append_nil] using this
/-- a def that draws: f(deck, e, ..) -/
@[simp] def rFnK (i : Nat) (R : DFn) (rs : DRA) : DR := fun E q => E[i]? = some .deck ∧ rs E fun ds => R ds q
theorem dx_callK {i : Nat} {y : Str} {p2 : Pos} (F : FnOk X.prog X.w X.K X.mg X.base CX0 k f fd ps (spDk Ta nm R)) (hr : Room k X.A) (hg : Gl X x) (hm : X.mg x = some (.ref f)) (hk : PySem.W.keepIn X.K (.ref f) = true) (hb : Binds X.K fd ps [])
    (hd : PE X (.Name y p2) (tVar i)) (ha : PA X es (tDA Ta nm rs)) (hdb : (x == ("__debug__" : Str)) = false := by decide +kernel) (he : starEach (.Name y p2 :: es) X.env = (false, eval (.Name y p2) X.env) :: starEach es X.env := by rfl) (hpl : (backTo pos (starEach es X.env)).any (·.1) = false := by rfl) :
    PE X (.Call (.Name x p) (.Name y p2 :: es) [] pos) (tD Ta nm (rFnK i R rs)) := PE.weak (pe_call F hr hg hm hk hb .nil (E := E0) pass0 (pa_cons hd ha he) hdb he hpl) fun σ H Q ⟨C, E, q, st, ⟨hi, hrs⟩, k⟩ => by
  obtain ⟨o, eo, c, hc, rfl⟩ := st.slot i _ hi
  refine ⟨_, eo, C, E, _, st, hrs, fun ds vs H1 g1 k1 sds hq => ?_⟩
  have st1 := st.step g1 k1
  have dkk : ∀ b, C.Dk b ↔ (b = c.1 ∨ b = c.2) := fun b => ⟨fun ⟨c', e', z⟩ => by rw [hc] at e'; cases e'; exact z, fun z => ⟨c, hc, z⟩⟩
  have dok := k1.dk c hc
  refine ⟨Zof C σ E, c.1, c.2, vs, ds, q, ?_, fun b hb => st1.zin hb, Zof.dk ((dkk _).mpr (.inl rfl)), Zof.dk ((dkk _).mpr (.inr rfl)), dok, sds, k1.tb, hq, fun d v H2 s2 d2 t2 sd hq => ?_⟩
  · simp
  have g2 : Go C H1 H2 := fun b o e n nd => s2 b o e n (fun z => nd ((dkk _).mpr (.inl z))) (fun z => nd ((dkk _).mpr (.inr z)))
  exact k d v H2 (g1.trans g2) ⟨t2, fun c' e' => by rw [hc] at e'; cases e'; exact d2⟩ sd hq
end
end Zk

set_option maxHeartbeats 1000000
/-! V3: statements over data; a def's promise. -/
namespace Zk
open PySem PySem.Spec PyProof.Rows L2 GxR
section
variable {Ta : List Addr} {nm : Str} {C : DC Ta nm} {H H' : Hp} {σ : L2.St} {E : DEnv} {i : Nat} {d : PyData} {v : V} {a p : Addr}
theorem get_set {α : Type} {l : List α} {i j : Nat} {x y : α} (h : (l.set i x)[j]? = some y) : (i = j ∧ y = x) ∨ (i ≠ j ∧ l[j]? = some y) := by
  by_cases e : i = j
  · subst e
    rw [List.getElem?_set] at h
    simp at h
    exact .inl ⟨rfl, h.2.symm⟩
  · rw [List.getElem?_set_ne e] at h
    exact .inr ⟨e, h⟩
/-- a slot takes data: no more is owned than before -/
theorem zof_put {v : V} {d : PyData} {b : Addr} (h : Zof C (σ.set i (some v)) (E.set i (.d d)) b) : Zof C σ E b := by
  rcases h with h | h | ⟨j, e, h1, h2, h3⟩
  · exact .inl h
  · exact .inr (.inl h)
  · rcases get_set h1 with ⟨rfl, rfl⟩ | ⟨ne, h1⟩
    · cases h2
    · rw [List.getElem?_set_ne ne] at h3
      exact .inr (.inr ⟨j, e, h1, h2, h3⟩)
theorem SlotOk.less {M M' : Hp} {o : Option V} {e : DV} (h : SlotOk C M H o e) (s : Sm M M') : SlotOk C M' H o e := by
  cases e with
  | d x => obtain ⟨v, e, sd⟩ := h; exact ⟨v, e, sd.sm s⟩
  | deck => exact h
  | no => trivial
  | lst xs => obtain ⟨a, vs, e, h, sd, n0, n1⟩ := h; exact ⟨a, vs, e, h, sd.sm s, n0, n1⟩
  | dic xs => obtain ⟨a, vs, e, h, sd, n0, n1⟩ := h; exact ⟨a, vs, e, h, SdKs.sm s sd, n0, n1⟩
  | dct xs => obtain ⟨a, vs, e, h, sd, n0, n1⟩ := h; exact ⟨a, vs, e, h, SdKs.sm s sd, n0, n1⟩
theorem St.put (s : St C H σ E) (hi : i < σ.length) (sd : Sd (msk (Zof C σ E) H) v d) : St C H (σ.set i (some v)) (E.set i (.d d)) := by
  have less : Sm (msk (Zof C σ E) H) (msk (Zof C (σ.set i (some v)) (E.set i (.d d))) H) := msk_less fun b hb => zof_put hb
  refine ⟨s.wf, s.go, s.ok, by rw [List.length_set, List.length_set]; exact s.len, fun j e he => ?_, fun j k e e' a ne h1 o1 h2 o2 h3 => ?_⟩
  · rcases get_set he with ⟨rfl, rfl⟩ | ⟨ne, he⟩
    · exact ⟨some v, by rw [List.getElem?_set_self hi], v, rfl, sd.sm less⟩
    · obtain ⟨o, ho, z⟩ := s.slot j e he
      exact ⟨o, by rw [List.getElem?_set_ne ne]; exact ho, z.less less⟩
  · rcases get_set h1 with ⟨rfl, rfl⟩ | ⟨n1, h1⟩
    · cases o1
    rcases get_set h2 with ⟨rfl, rfl⟩ | ⟨n2, h2⟩
    · cases o2
    rw [List.getElem?_set_ne n1] at h3
    rw [List.getElem?_set_ne n2]
    exact s.dist j k e e' a ne h1 o1 h2 o2 h3
theorem St.he_none (s : St C H σ E) (h : H p = none) : C.He p = none := by
  cases e : C.He p with
  | none => rfl
  | some o =>
    obtain ⟨o', e', _⟩ := s.tracked (b := p) (by rw [e]; exact fun z => nomatch z)
    rw [h] at e'
    cases e'
/-- a slot takes a new object of its own -/
theorem St.own (s : St C H σ E) (hi : i < σ.length) (hp : H p = none) {o : HO} {e : DV} (eo : e.own = true) (h : ∀ M H', (∀ b u, msk (Zof C σ E) H b = some u → M b = some u) → H' p = some o → SlotOk C M H' (some (.ref p)) e) : St C (upd H p o) (σ.set i (some (.ref p))) (E.set i e) := by
  have zz : ∀ b, Zof C (σ.set i (some (.ref p))) (E.set i e) b → Zof C σ E b ∨ b = p := fun b z => by
    rcases z with z | z | ⟨j, u, h1, h2, h3⟩
    · exact .inl (.inl z)
    · exact .inl (.inr (.inl z))
    · rcases get_set h1 with ⟨rfl, rfl⟩ | ⟨ne, h1⟩
      · rw [List.getElem?_set_self hi] at h3
        cases h3
        exact .inr rfl
      · rw [List.getElem?_set_ne ne] at h3
        exact .inl (.inr (.inr ⟨j, u, h1, h2, h3⟩))
  have up : ∀ b u, msk (Zof C σ E) H b = some u → msk (Zof C (σ.set i (some (.ref p))) (E.set i e)) (upd H p o) b = some u := fun b u z => by
    obtain ⟨z1, z2⟩ := msk_some.mp z
    have nb : b ≠ p := fun y => by rw [y, hp] at z2; cases z2
    refine msk_some.mpr ⟨fun y => ?_, (upd_ne nb).trans z2⟩
    rcases zz b y with y | y
    · exact z1 y
    · exact nb y
  have sn := same_new hp o
  refine ⟨s.wf, s.go.trans (Same.go sn), s.ok.same sn, by rw [List.length_set, List.length_set]; exact s.len, fun j u he => ?_, fun j k u u' a ne h1 o1 h2 o2 h3 => ?_⟩
  · rcases get_set he with ⟨rfl, rfl⟩ | ⟨ne, he⟩
    · exact ⟨_, by rw [List.getElem?_set_self hi], h _ _ up upd_same⟩
    · obtain ⟨x, hx, z⟩ := s.slot j u he
      refine ⟨x, by rw [List.getElem?_set_ne ne]; exact hx, ?_⟩
      have z := z.less (fun b u e _ => up b u e)
      cases u with
      | d x => exact z
      | deck => exact z
      | no => trivial
      | lst xs => obtain ⟨a, vs, e, h, r⟩ := z; exact ⟨a, vs, e, sn _ _ h, r⟩
      | dic xs => obtain ⟨a, vs, e, h, r⟩ := z; exact ⟨a, vs, e, sn _ _ h, r⟩
      | dct xs => obtain ⟨a, vs, e, h, r⟩ := z; exact ⟨a, vs, e, sn _ _ h, r⟩
  · have tr : ∀ (j : Nat) (u : DV) (a : Addr), E[j]? = some u → u.own = true → σ[j]? = some (some (V.ref a)) → a ≠ p := fun j u a h1 o1 h3 z => by
      obtain ⟨o, e, _⟩ := s.zin (b := a) (.inr (.inr ⟨j, u, h1, o1, h3⟩))
      rw [z, hp] at e
      cases e
    rcases get_set h1 with ⟨q1, q2⟩ | ⟨n1, g1⟩
    · subst q1
      rw [List.getElem?_set_self hi] at h3
      cases h3
      rcases get_set h2 with ⟨q3, q4⟩ | ⟨n2, g2⟩
      · exact absurd q3 ne
      · rw [List.getElem?_set_ne n2]
        exact fun z => tr k u' p g2 o2 z rfl
    · rw [List.getElem?_set_ne n1] at h3
      rcases get_set h2 with ⟨q3, q4⟩ | ⟨n2, g2⟩
      · subst q3
        rw [List.getElem?_set_self hi]
        intro z
        cases z
        exact tr j u p g1 o1 h3 rfl
      · rw [List.getElem?_set_ne n2]
        exact s.dist j k u u' a ne g1 o1 g2 o2 h3
/-- what a slot owns is written to -/
theorem St.write (s : St C H σ E) {e e' : DV} (he : E[i]? = some e) (eo : e.own = true) (eo' : e'.own = true) (ha : σ[i]? = some (some (.ref a))) {o : HO} (n1 : C.He a = none) (nt : ∀ ps, H a ≠ some (.tbl ps)) (h : SlotOk C (msk (Zof C σ E) H) (upd H a o) (some (.ref a)) e') : St C (upd H a o) σ (E.set i e') := by
  have za : Zof C σ E a := .inr (.inr ⟨i, e, he, eo, ha⟩)
  have il : i < E.length := (List.getElem?_eq_some_iff.mp he).1
  have zz : ∀ b, Zof C σ (E.set i e') b ↔ Zof C σ E b := fun b => by
    constructor
    · rintro (z | z | ⟨j, u, h1, h2, h3⟩)
      · exact .inl z
      · exact .inr (.inl z)
      · rcases get_set h1 with ⟨rfl, rfl⟩ | ⟨ne, h1⟩
        · exact .inr (.inr ⟨i, e, he, eo, h3⟩)
        · exact .inr (.inr ⟨j, u, h1, h2, h3⟩)
    · rintro (z | z | ⟨j, u, h1, h2, h3⟩)
      · exact .inl z
      · exact .inr (.inl z)
      · by_cases q : i = j
        · subst q
          exact .inr (.inr ⟨i, e', by rw [List.getElem?_set_self il], eo', h3⟩)
        · exact .inr (.inr ⟨j, u, by rw [List.getElem?_set_ne q]; exact h1, h2, h3⟩)
  have same : Sm (msk (Zof C σ E) H) (msk (Zof C σ (E.set i e')) (upd H a o)) := fun b u z _ => by
    obtain ⟨z1, z2⟩ := msk_some.mp z
    exact msk_some.mpr ⟨fun y => z1 ((zz b).mp y), (upd_ne (fun y : b = a => z1 (by rw [y]; exact za))).trans z2⟩
  have nd : ¬ C.Dk a := fun k => s.wf.dk a k n1
  refine ⟨s.wf, fun b u e n d => (upd_ne fun y => by rw [y, n1] at e; cases e).trans (s.go b u e n d), ⟨fun P hP => ?_, fun q hq => ?_⟩, by rw [List.length_set]; exact s.len, fun j u hu => ?_, fun j k u u' b ne h1 o1 h2 o2 h3 => ?_⟩
  · obtain ⟨ps, e, t⟩ := s.ok.tb P hP
    exact ⟨ps, (upd_ne (fun y : P = a => nt ps (by rw [← y]; exact e))).trans e, t⟩
  · obtain ⟨l, m, dd, e1, e2, r⟩ := s.ok.dk q hq
    exact ⟨l, m, dd, (upd_ne fun y => nd ⟨q, hq, .inl y.symm⟩).trans e1, (upd_ne fun y => nd ⟨q, hq, .inr y.symm⟩).trans e2, r⟩
  · rcases get_set hu with ⟨rfl, rfl⟩ | ⟨ne, hu⟩
    · exact ⟨_, ha, h.less same⟩
    · obtain ⟨x, hx, z⟩ := s.slot j u hu
      refine ⟨x, hx, ?_⟩
      have z := z.less same
      have off : ∀ b, u.own = true → x = some (.ref b) → b ≠ a := fun b ou ex y => by
        rw [ex, y] at hx
        exact s.dist j i u e a (fun q => ne q.symm) hu ou he eo hx ha
      cases u with
      | d x => exact z
      | deck => exact z
      | no => trivial
      | lst xs => obtain ⟨b, vs, e, h, r⟩ := z; exact ⟨b, vs, e, (upd_ne (off b rfl e)).trans h, r⟩
      | dic xs => obtain ⟨b, vs, e, h, r⟩ := z; exact ⟨b, vs, e, (upd_ne (off b rfl e)).trans h, r⟩
      | dct xs => obtain ⟨b, vs, e, h, r⟩ := z; exact ⟨b, vs, e, (upd_ne (off b rfl e)).trans h, r⟩
  · have back : ∀ (j : Nat) (u : DV), (E.set i e')[j]? = some u → u.own = true → ∃ w, E[j]? = some w ∧ w.own = true := fun j u h o => by
      rcases get_set h with ⟨rfl, rfl⟩ | ⟨_, h⟩
      · exact ⟨e, he, eo⟩
      · exact ⟨u, h, o⟩
    obtain ⟨w1, a1, b1⟩ := back j u h1 o1
    obtain ⟨w2, a2, b2⟩ := back k u' h2 o2
    exact s.dist j k w1 w2 b ne a1 b1 a2 b2 h3
/-- what a slot owned is data from now on -/
theorem St.freeze (s : St C H σ E) {xs : List PyData} (he : E[i]? = some (.lst xs)) : St C H σ (E.set i (.d (.list xs))) := by
  obtain ⟨o, ho, a, vs, rfl, ha, sd, n0, n1⟩ := s.slot i _ he
  have il : i < E.length := (List.getElem?_eq_some_iff.mp he).1
  have zz : ∀ b, Zof C σ (E.set i (.d (.list xs))) b → Zof C σ E b := fun b z => by
    rcases z with z | z | ⟨j, u, h1, h2, h3⟩
    · exact .inl z
    · exact .inr (.inl z)
    · rcases get_set h1 with ⟨rfl, rfl⟩ | ⟨ne, h1⟩
      · cases h2
      · exact .inr (.inr ⟨j, u, h1, h2, h3⟩)
  have nz : ¬ Zof C σ (E.set i (.d (.list xs))) a := fun z => by
    rcases z with z | z | ⟨j, u, h1, h2, h3⟩
    · exact n1 z
    · exact s.wf.dk a z n0
    · rcases get_set h1 with ⟨rfl, rfl⟩ | ⟨ne, h1⟩
      · cases h2
      · exact s.dist i j _ u a ne he rfl h1 h2 ho h3
  have less : Sm (msk (Zof C σ E) H) (msk (Zof C σ (E.set i (.d (.list xs)))) H) := msk_less zz
  refine ⟨s.wf, s.go, s.ok, by rw [List.length_set]; exact s.len, fun j u hu => ?_, fun j k u u' b ne h1 o1 h2 o2 h3 => ?_⟩
  · rcases get_set hu with ⟨rfl, rfl⟩ | ⟨ne, hu⟩
    · exact ⟨_, ho, .ref a, rfl, .lst (msk_some.mpr ⟨nz, ha⟩) (sd.sm less)⟩
    · obtain ⟨x, hx, z⟩ := s.slot j u hu
      exact ⟨x, hx, z.less less⟩
  · rcases get_set h1 with ⟨rfl, rfl⟩ | ⟨q1, h1⟩
    · cases o1
    rcases get_set h2 with ⟨rfl, rfl⟩ | ⟨q2, h2⟩
    · cases o2
    exact s.dist j k u u' b ne h1 o1 h2 o2 h3
end
/-! ### statements -/
section
variable {X : Cx} {Ta : List Addr} {nm : Str} {e : Expr} {es : List Expr} {st : Stmt} {sts a b : List Stmt} {r : DR} {rt : DRT} {rs : DRA} {r1 r2 : DRS} {pos : Pos}
@[simp] def rNil : DRS := fun K E => K.nx E
@[simp] def rSeq (r1 r2 : DRS) : DRS := fun K E => r1 { K with nx := r2 K } E
theorem dss_nil : PSs X [] (tDS Ta nm rNil) := PSs.weak pss_nil fun D σ H ⟨C, E, K, s, re, h⟩ => re.nx σ H E s h
theorem dss_cons (h1 : PS X st (tDS Ta nm r1)) (h2 : PSs X sts (tDS Ta nm r2)) : PSs X (st :: sts) (tDS Ta nm (rSeq r1 r2)) := PSs.weak (pss_cons h1 h2) fun D σ H ⟨C, E, K, s, re, h⟩ =>
  ⟨C, E, { K with nx := r2 K }, s, ⟨fun σ' H' E' s' h' => ⟨C, E', K, s', re, h'⟩, re.rt, re.bk, re.ct⟩, h⟩
theorem dss_one (h : PS X st (tDS Ta nm r1)) : PSs X [st] (tDS Ta nm r1) := pss_one h
@[simp] def rSet (i : Nat) (r : DR) : DRS := fun K E => r E fun d => i < E.length ∧ K.nx (E.set i (.d d))
theorem asg_run {i : Nat} : ∀ D σ H, tDS Ta nm (rSet i r) D σ H → tAsg (tD Ta nm r) (gName i) D σ H := fun D σ H ⟨C, E, K, s, re, h⟩ =>
  ⟨C, E, _, s, h, fun d v H1 g1 k1 sd ⟨hi, hq⟩ => re.nx _ _ _ ((s.step g1 k1).put (by rw [s.len]; exact hi) sd) hq⟩
theorem ds_of {t : TE} {i : Nat} (h : PS X st (tAsg t (gName i))) (k : ∀ σ H Q, tD Ta nm r σ H Q → t σ H Q) : PS X st (tDS Ta nm (rSet i r)) := PS.weak h fun D σ H z => k σ H _ (asg_run D σ H z)
@[simp] def rRet (r : DR) : DRS := fun K E => r E K.rt
theorem ds_ret (h : PE X e (tD Ta nm r)) : PS X (.Return (some e) pos) (tDS Ta nm (rRet r)) := PS.weak (ps_ret h) fun D σ H ⟨C, E, K, s, re, h⟩ =>
  ⟨C, E, _, s, h, fun d v H1 g1 k1 sd hq => re.rt v H1 d (s.go.trans g1) k1 (sd.sm (msk_less fun b z => z.elim .inl fun z => .inr (.inl z))) hq⟩
@[simp] def rDo (r : DR) : DRS := fun K E => r E fun _ => K.nx E
theorem ds_expr (h : PE X e (tD Ta nm r)) (hs : swapsWith e none pos.line X.env = pure false := by rfl) : PS X (.Expr e pos) (tDS Ta nm (rDo r)) := PS.weak (ps_expr h hs) fun D σ H ⟨C, E, K, s, re, h⟩ =>
  ⟨C, E, _, s, h, fun d v H1 g1 k1 sd hq => re.nx _ _ _ (s.step g1 k1) hq⟩
@[simp] def rIfS (t : DRT) (r1 r2 : DRS) : DRS := fun K E => t E fun b => if b = true then r1 K E else r2 K E
theorem ds_if {c : Expr} (hc : L2.PT X c (tDT Ta nm rt)) (ha : PSs X a (tDS Ta nm r1)) (hb : PSs X b (tDS Ta nm r2)) : PS X (.If c a b pos) (tDS Ta nm (rIfS rt r1 r2)) := PS.weak (ps_if hc ha hb) fun D σ H ⟨C, E, K, s, re, h⟩ =>
  ⟨C, E, _, s, h, fun b H1 g1 k1 hq => by
    cases b with
    | true => exact ⟨C, E, K, s.step g1 k1, re, hq⟩
    | false => exact ⟨C, E, K, s.step g1 k1, re, hq⟩⟩
@[simp] def rCont : DRS := fun K E => K.ct E
theorem ds_continue : PS X (.Continue pos) (tDS Ta nm rCont) := PS.weak ps_continue fun D σ H ⟨C, E, K, s, re, h⟩ => re.ct σ H E s h
@[simp] def rBrk : DRS := fun K E => K.bk E
theorem ds_break : PS X (.Break pos) (tDS Ta nm rBrk) := PS.weak ps_break fun D σ H ⟨C, E, K, s, re, h⟩ => re.bk σ H E s h
/-- x = [e, ..], a list of the slot's own -/
@[simp] def rNew (i : Nat) (rs : DRA) : DRS := fun K E => rs E fun ds => i < E.length ∧ ds.length ≤ sizeLine ∧ K.nx (E.set i (.lst ds))
theorem ds_new {i : Nat} (h : PS X st (tAsg (tLst (tDA Ta nm rs)) (gName i))) : PS X st (tDS Ta nm (rNew i rs)) := PS.weak h fun D σ H ⟨C, E, K, s, re, h⟩ =>
  ⟨C, E, _, s, h, fun ds vs H1 g1 k1 sds ⟨hi, hl, hq⟩ => ⟨by rw [sds.len]; exact hl, fun p hp => by
    have s1 := s.step g1 k1
    exact re.nx _ _ _ (s1.own (e := .lst ds) (by rw [s.len]; exact hi) hp rfl fun M H' up h => ⟨p, vs, rfl, h, sds.sm (fun b u e _ => up b u e), s1.he_none hp, fun z => s1.new hp (.inl z)⟩) hq⟩⟩
/-- x.append(e) -/
@[simp] def rApp (i : Nat) (r : DR) : DRS := fun K E => ∃ xs, E[i]? = some (.lst xs) ∧ r E fun d => xs.length < sizeLine ∧ K.nx (E.set i (.lst (xs ++ [d])))
theorem ds_app {i : Nat} (h : PS X st (tDrop (tBM X.K "list" (fun x xs H Q => ∃ p xs' y, x = .ref p ∧ xs = [y] ∧ H p = some (.lst xs') ∧ xs'.length < sizeLine ∧ Q .non (upd H p (.lst (xs' ++ [y])))) (tVar i) (tCons (tD Ta nm r) tNil)))) : PS X st (tDS Ta nm (rApp i r)) := PS.weak h fun D σ H ⟨C, E, K, s, re, ⟨xs, hx, h⟩⟩ => by
  obtain ⟨o, ho, a, vs, rfl, ha, sd, n0, n1⟩ := s.slot i _ hx
  refine ⟨_, ho, .inl ⟨rfl, _, SqL.of ha⟩, C, E, _, s, h, fun d v H1 g1 k1 sd1 ⟨hl, hq⟩ => ?_⟩
  have s1 := s.step g1 k1
  obtain ⟨o2, ho2, a2, vs2, e2, ha2, sd2, _, _⟩ := s1.slot i _ hx
  rw [ho] at ho2
  cases ho2
  injection e2 with e2
  injection e2 with e2
  subst e2
  refine ⟨a, vs2, v, rfl, rfl, ha2, by rw [sd2.len]; exact hl, ?_⟩
  exact re.nx _ _ _ (s1.write (e' := .lst (xs ++ [d])) hx rfl rfl ho n0 (fun ps z => by rw [ha2] at z; cases z) ⟨a, _, rfl, upd_same, sd2.app (.cons sd1 .nil), n0, n1⟩) hq
/-- from here on a slot's own list is data -/
@[simp] def rFrz (i : Nat) (r : DRS) : DRS := fun K E => ∃ xs, E[i]? = some (.lst xs) ∧ r K (E.set i (.d (.list xs)))
theorem dss_frz {i : Nat} (h : PSs X sts (tDS Ta nm r1)) : PSs X sts (tDS Ta nm (rFrz i r1)) := PSs.weak h fun D σ H ⟨C, E, K, s, re, ⟨xs, hx, h⟩⟩ => ⟨C, _, K, s.freeze hx, re, h⟩
end
end Zk

set_option maxHeartbeats 1000000
/-! V4: promises of defs over data; sequences, subscripts. -/
namespace Zk
open PySem PySem.Spec PyProof.Rows L2 GxR
/-- the heap without tables of code -/
def ntb (H : Hp) : Hp := fun x => match H x with
  | some (.tbl _) => none
  | o => o
theorem ntb_of {H : Hp} {x : Addr} {o : HO} (e : H x = some o) (n : ∀ ps, o ≠ .tbl ps) : ntb H x = some o := by
  unfold ntb
  rw [e]
  cases o with
  | tbl ps => exact absurd rfl (n ps)
  | _ => rfl
theorem ntb_to {H : Hp} {x : Addr} {o : HO} (e : ntb H x = some o) : H x = some o ∧ ∀ ps, o ≠ .tbl ps := by
  unfold ntb at e
  split at e
  · cases e
  · next n => exact ⟨e, fun ps z => n ps (by rw [e, z])⟩
@[simp] def dEnv (n : Nat) (ds : List PyData) : DEnv := ds.map DV.d ++ List.replicate (n - ds.length) .no
@[simp] def dEnd (q : PyData → Prop) : DEnds := { nx := fun _ => q .none, rt := q }
theorem args_slot {Ta : List Addr} {nm : Str} {C : DC Ta nm} {M H : Hp} {N : List Str} {vs : List V} {ds : List PyData} (h : SdL M vs ds) {i : Nat} {e : DV} (he : (dEnv N.length ds)[i]? = some e) : ∃ o, (L2.start N vs)[i]? = some o ∧ SlotOk C M H o e := by
  unfold dEnv at he
  unfold L2.start
  have hl := h.len
  by_cases z : i < ds.length
  · rw [List.getElem?_append_left (by rw [List.length_map]; exact z), List.getElem?_map] at he
    rw [List.getElem?_append_left (by rw [List.length_map]; omega), List.getElem?_map]
    have hv : vs[i]? = some vs[i] := List.getElem?_eq_getElem (by omega)
    obtain ⟨d, hd, sd⟩ := h.get hv
    rw [hd] at he
    cases he
    exact ⟨some vs[i], by rw [hv]; rfl, vs[i], rfl, sd⟩
  · rw [List.getElem?_append_right (by rw [List.length_map]; omega), List.length_map, List.getElem?_replicate] at he
    rw [List.getElem?_append_right (by rw [List.length_map]; omega), List.length_map, List.getElem?_replicate, hl]
    split at he
    · next q =>
      cases he
      exact ⟨none, by rw [if_pos q], trivial⟩
    · cases he
theorem dEnv_len {n : Nat} {ds : List PyData} (h : ds.length ≤ n) : (dEnv n ds).length = n := by
  unfold dEnv
  rw [List.length_append, List.length_map, List.length_replicate]
  omega
theorem dEnv_own {n : Nat} {ds : List PyData} {i : Nat} {e : DV} (h : (dEnv n ds)[i]? = some e) : e.own = false := by
  have := List.mem_of_getElem? h
  unfold dEnv at this
  rcases List.mem_append.mp this with q | q
  · obtain ⟨d, _, rfl⟩ := List.mem_map.mp q
    rfl
  · rw [List.eq_of_mem_replicate q]
    rfl
section
variable {P : Program} {w : World} {K : PySem.W.Frag} {mg : Str → Option Value} {base : Heap} {Ta : List Addr} {nm : Str}
theorem fn_d {x qual : Str} {st : Stmt} {f : Addr} {fd : FuncData} {N ps : List Str} {k : Nat} (nm : Str) {R : DFn} (F : Fun K x qual st f fd) (S : FnScope N ps (defScope st)) (len : ∀ ds q, R ds q → ds.length = ps.length) (hn : ps.length ≤ N.length)
    (body : ∀ (cdv : Value) (A : Around) (outer : List Env) (s : Shared) (H : Hp) (E : XK), Room k (A.deeper (envOfC qual (defScope st) s.heap.objs.size f cdv)) →
      ∃ r, PSs (cxOf CX0 P w K mg base N qual (defScope st) f cdv A outer s H E).nox (defBody st) (tDS Ta nm r) ∧ ∀ ds q, R ds q → r (dEnd q) (dEnv N.length ds)) : FnOk P w K mg base CX0 (k + 1) f fd ps (spD' Ta R) := by
  refine F.ok S (fun vs H Q E h => ?_) (fun cdv A outer s H vs Q E hr h => ?_)
  · obtain ⟨Z, ds, q, _, sds, _, hR, _⟩ := h
    rw [sds.len]
    exact len ds q hR
  obtain ⟨Z, ds, q, hz, sds, tb, hR, kk⟩ := h
  obtain ⟨r, ht, hb⟩ := body cdv A outer s H E hr
  have hl := len ds q hR
  let C : DC Ta nm := ⟨none, Z, ntb H⟩
  have nodk : ∀ b, ¬ C.Dk b := fun b ⟨c, e, _⟩ => by cases e
  have zof : ∀ b, Zof C (L2.start N vs) (dEnv N.length ds) b → Z b := fun b h => by
    rcases h with h | h | ⟨i, e, h1, h2, _⟩
    · exact h
    · exact absurd h (nodk b)
    · rw [dEnv_own h1] at h2
      cases h2
  refine ⟨_, ht, C, dEnv N.length ds, dEnd q, ?_, ?_, hb ds q hR⟩
  · refine ⟨⟨fun b k => absurd k (nodk b), fun b k => ?_, fun b ps e => (ntb_to e).2 ps rfl⟩, fun b o e _ _ => (ntb_to e).1, ⟨tb, fun c e => by cases e⟩, ?_, fun i e he => args_slot (sds.sm (msk_less zof)) he, fun i j e e' a _ h1 h2 => ?_⟩
    · obtain ⟨o, e, n⟩ := hz b k
      show ntb H b ≠ none
      rw [ntb_of e n]
      exact fun z => nomatch z
    · rw [dEnv_len (by omega)]
      show (vs.map some ++ List.replicate (N.length - vs.length) none).length = _
      have := sds.len
      rw [List.length_append, List.length_map, List.length_replicate]
      omega
    · rw [dEnv_own h1] at h2
      cases h2
  · have sm : ∀ H', Go C C.He H' → Sm H H' := fun H' g b o e n => g b o (ntb_of e n) n (nodk b)
    refine ⟨fun σ H' E' s' hq => kk .none .non H' (sm H' s'.go) s'.ok.tb .non hq, fun v H' d g k sd hq => kk d v H' (sm H' g) k.tb (sd.sm (msk_less fun b z => .inl z)) hq, fun σ H' E' s' hq => hq.elim, fun σ H' E' s' hq => hq.elim⟩
/-- a def whose first argument is the deck -/
theorem fn_k {x qual : Str} {st : Stmt} {f : Addr} {fd : FuncData} {N ps : List Str} {n0 : Str} {k : Nat} {R : DFn} (F : Fun K x qual st f fd) (S : FnScope (n0 :: N) (n0 :: ps) (defScope st)) (len : ∀ ds q, R ds q → ds.length = ps.length) (hn : ps.length ≤ N.length)
    (body : ∀ (cdv : Value) (A : Around) (outer : List Env) (s : Shared) (H : Hp) (E : XK), Room k (A.deeper (envOfC qual (defScope st) s.heap.objs.size f cdv)) →
      ∃ r, PSs (cxOf CX0 P w K mg base (n0 :: N) qual (defScope st) f cdv A outer s H E).nox (defBody st) (tDS Ta nm r) ∧ ∀ ds q, R ds q → r (dEnd q) (.deck :: dEnv N.length ds)) : FnOk P w K mg base CX0 (k + 1) f fd (n0 :: ps) (spDk Ta nm R) := by
  refine F.ok S (fun vs H Q E h => ?_) (fun cdv A outer s H vs Q E hr h => ?_)
  · obtain ⟨Z, dk, lf, ws, ds, q, rfl, _, _, _, _, sds, _, hR, _⟩ := h
    rw [List.length_cons, List.length_cons, sds.len]
    exact congrArg Nat.succ (len ds q hR)
  obtain ⟨Z, dk, lf, ws, ds, q, rfl, hz, z1, z2, dok, sds, tb, hR, kk⟩ := h
  obtain ⟨r, ht, hb⟩ := body cdv A outer s H E hr
  have hl := len ds q hR
  let C : DC Ta nm := ⟨some (dk, lf), Z, ntb H⟩
  have dkk : ∀ b, C.Dk b ↔ (b = dk ∨ b = lf) := fun b => ⟨fun ⟨c, e, z⟩ => by cases e; exact z, fun z => ⟨_, rfl, z⟩⟩
  have own : ∀ {i : Nat} {e : DV}, ((DV.deck :: dEnv N.length ds) : DEnv)[i]? = some e → e.own = false := fun {i e} h => by
    cases i with
    | zero => simp at h; rw [← h]; rfl
    | succ i => exact dEnv_own (by simpa using h)
  have zof : ∀ b, Zof C (L2.start (n0 :: N) (.ref dk :: ws)) (.deck :: dEnv N.length ds) b → Z b := fun b h => by
    rcases h with h | h | ⟨i, e, h1, h2, _⟩
    · exact h
    · rcases (dkk b).mp h with rfl | rfl
      · exact z1
      · exact z2
    · rw [own h1] at h2
      cases h2
  have st0 : L2.start (n0 :: N) (.ref dk :: ws) = some (.ref dk) :: L2.start N ws := by
    unfold L2.start
    simp
  have dok' := dok
  obtain ⟨left, m, d, e1, e2, _⟩ := dok'
  refine ⟨_, ht, C, .deck :: dEnv N.length ds, dEnd q, ?_, ?_, hb ds q hR⟩
  · refine ⟨⟨fun b k => ?_, fun b k => ?_, fun b ps e => (ntb_to e).2 ps rfl⟩, fun b o e _ _ => (ntb_to e).1, ⟨tb, fun c e => by cases e; exact dok⟩, ?_, fun i e he => ?_, fun i j e e' a _ h1 h2 => ?_⟩
    · show ntb H b ≠ none
      rcases (dkk b).mp k with rfl | rfl
      · rw [ntb_of e1 (fun _ z => nomatch z)]; exact fun z => nomatch z
      · rw [ntb_of e2 (fun _ z => nomatch z)]; exact fun z => nomatch z
    · obtain ⟨o, e, n⟩ := hz b k
      show ntb H b ≠ none
      rw [ntb_of e n]
      exact fun z => nomatch z
    · rw [st0, List.length_cons, List.length_cons, dEnv_len (by omega)]
      congr 1
      show (ws.map some ++ List.replicate (N.length - ws.length) none).length = _
      have := sds.len
      rw [List.length_append, List.length_map, List.length_replicate]
      omega
    · rw [st0]
      cases i with
      | zero =>
        simp at he
        subst he
        exact ⟨_, rfl, (dk, lf), rfl, rfl⟩
      | succ i =>
        rw [List.getElem?_cons_succ] at he
        rw [List.getElem?_cons_succ]
        rw [← st0]
        exact args_slot (sds.sm (msk_less zof)) he
    · rw [own h1] at h2
      cases h2
  · have go : ∀ H', Go C C.He H' → ∀ b o, H b = some o → (∀ ps, o ≠ .tbl ps) → b ≠ dk → b ≠ lf → H' b = some o := fun H' g b o e n n1 n2 => g b o (ntb_of e n) n fun k => ((dkk b).mp k).elim n1 n2
    refine ⟨fun σ H' E' s' hq => kk .none .non H' (go H' s'.go) (s'.ok.dk _ rfl) s'.ok.tb .non hq, fun v H' d g k sd hq => kk d v H' (go H' g) (k.dk _ rfl) k.tb (sd.sm (msk_less fun b z => .inl z)) hq, fun σ H' E' s' hq => hq.elim, fun σ H' E' s' hq => hq.elim⟩
end
/-! ### sequences -/
section
variable {X : Cx} {Ta : List Addr} {nm : Str} {e a b : Expr} {r ra rb : DR} {rq : DRQ} {rs : DRA} {pos p : Pos} {x : Str}
@[simp] def rqD (r : DR) : DRQ := fun E q => r E fun d => (∃ xs, d = .list xs ∧ q true xs) ∨ (∃ xs, d = .tuple xs ∧ q false xs)
theorem dq_data (h : PE X e (tD Ta nm r)) : PE X e (tDQ Ta nm (rqD r)) := PE.weak h fun σ H Q ⟨C, E, q, s, hr, k⟩ => ⟨C, E, _, s, hr, fun d v H1 g1 k1 sd hq => by
  rcases hq with ⟨xs, rfl, hq⟩ | ⟨xs, rfl, hq⟩
  · obtain ⟨a, vs, rfl, ha, hs⟩ := sd_lst sd
    exact k true xs a vs H1 g1 k1 (msk_some.mp ha).2 hs (fun z => nomatch z) (fun z => (msk_some.mp ha).1 (Zof.dk z)) hq
  · obtain ⟨a, vs, rfl, ha, hs⟩ := sd_tup sd
    exact k false xs a vs H1 g1 k1 (msk_some.mp ha).2 hs (fun _ => (msk_some.mp ha).1) (fun z => (msk_some.mp ha).1 (Zof.dk z)) hq⟩
@[simp] def rqO (i : Nat) : DRQ := fun E q => ∃ xs, E[i]? = some (.lst xs) ∧ q true xs
theorem dq_own (i : Nat) (h : PE X (.Name x pos) (tVar i)) : PE X (.Name x pos) (tDQ Ta nm (rqO i)) := PE.weak h fun σ H Q ⟨C, E, q, s, ⟨xs, hx, hq⟩, k⟩ => by
  obtain ⟨o, ho, a, vs, rfl, ha, sd, n0, _⟩ := s.slot i _ hx
  exact ⟨_, ho, k true xs a vs H Go.refl s.ok ha sd (fun z => nomatch z) (fun z => s.wf.dk a z n0) hq⟩
theorem q_sq {K : PySem.W.Frag} {H : Hp} {a : Addr} {vs : List V} {k : Bool} (h : H a = some (if k = true then .lst vs else .tup vs)) : SqL K H a vs ∨ SqT K H a vs := by
  cases k with
  | true => exact .inl (SqL.of h)
  | false => exact .inr (SqT.of h)
/-- len(e), e a list or a tuple -/
@[simp] def rLenQ (rq : DRQ) : DR := fun E q => rq E fun _ xs => q (.int xs.length)
theorem dx_lenQ (h : PE X e (tDQ Ta nm rq)) (hg : Gl X "len") (hm : X.mg "len" = none) (he : starEach [e] X.env = (false, eval e X.env) :: starEach [] X.env := by rfl) : PE X (.Call (.Name "len" p) [e] [] pos) (tD Ta nm (rLenQ rq)) :=
  PE.weak (pe_callB call_len_seq hg hm PySem.boot_len (pa_cons h pa_nil (hs := he)) (he := he)) fun σ H Q ⟨C, E, q, s, hr, k⟩ => ⟨C, E, _, s, hr, fun kk xs a vs H1 g1 k1 ha sds nz nd hq => ⟨a, vs, rfl, q_sq ha, by rw [sds.len]; exact k _ _ H1 g1 k1 (.int _) hq⟩⟩
/-- len of data of any kind -/
def lenD : PyData → Option Nat
  | .str x => some x.length
  | .list xs => some xs.length
  | .tuple xs => some xs.length
  | _ => none
@[simp] def gLen : DGC := fun ds q => ∃ d n, ds = [d] ∧ lenD d = some n ∧ n ≤ sizeLine ∧ q (.int n)
theorem callS_len {K : PySem.W.Frag} : CallS (fun xs H Q => ∃ x n, xs = [x] ∧ LenV K x H n ∧ Q (.int n) H) gLen := fun Z H xs ds q Q _ hs ⟨d, n, e, hl, hz, hq⟩ k => by
  subst e
  cases hs with
  | cons h t =>
    cases t
    refine ⟨_, n, rfl, ?_, k _ _ H (Same.refl _) (.int _) hq⟩
    cases h with
    | str x => cases hl; exact ⟨hz, rfl⟩
    | lst ha hs => cases hl; exact .inl ⟨_, SqL.of (msk_some.mp ha).2, hs.len.symm⟩
    | tup ha hs => cases hl; exact .inr ⟨_, SqT.of (msk_some.mp ha).2, hs.len.symm⟩
    | _ => cases hl
/-- tuple(e), list(e) -/
theorem dx_tupleQ (h : PE X e (tDQ Ta nm rq)) (hg : Gl X "tuple") (hm : X.mg "tuple" = none) (he : starEach [e] X.env = (false, eval e X.env) :: starEach [] X.env := by rfl) : PE X (.Call (.Name "tuple" p) [e] [] pos) (tD Ta nm fun E q => rq E fun _ xs => q (.tuple xs)) :=
  PE.weak (pe_callTy call_tuple_of hg hm (by decide +kernel) (pa_cons h pa_nil (hs := he)) (by decide +kernel) (by decide +kernel) he) fun σ H Q ⟨C, E, q, s, hr, k⟩ => ⟨C, E, _, s, hr, fun kk xs a vs H1 g1 k1 ha sds nz nd hq => by
    refine ⟨a, vs, rfl, ?_⟩
    cases kk with
    | true => exact .inl ⟨SqL.of ha, fun p hp => k _ _ _ (g1.trans (Same.go (same_new hp _))) (k1.same (same_new hp _)) (.tup (msk_at ((s.step g1 k1).new hp)) (SdL.same (msk_new hp) sds)) hq⟩
    | false => exact .inr ⟨SqT.of ha, k _ _ H1 g1 k1 (.tup (msk_some.mpr ⟨nz rfl, ha⟩) sds) hq⟩⟩
theorem dx_listQ (h : PE X e (tDQ Ta nm rq)) (hg : Gl X "list") (hm : X.mg "list" = none) (he : starEach [e] X.env = (false, eval e X.env) :: starEach [] X.env := by rfl) : PE X (.Call (.Name "list" p) [e] [] pos) (tD Ta nm fun E q => rq E fun _ xs => q (.list xs)) :=
  PE.weak (pe_callTy call_list_of hg hm (by decide +kernel) (pa_cons h pa_nil (hs := he)) (by decide +kernel) (by decide +kernel) he) fun σ H Q ⟨C, E, q, s, hr, k⟩ => ⟨C, E, _, s, hr, fun kk xs a vs H1 g1 k1 ha sds nz nd hq =>
    ⟨a, vs, rfl, q_sq ha, fun p hp => k _ _ _ (g1.trans (Same.go (same_new hp _))) (k1.same (same_new hp _)) (.lst (msk_at ((s.step g1 k1).new hp)) (SdL.same (msk_new hp) sds)) hq⟩⟩
end
end Zk

set_option maxHeartbeats 1000000
/-! V5: sequences that are empty, subscripts, slices, signs in texts, over data. -/
namespace Zk
open PySem PySem.Spec PyProof.Rows L2 GxR
section
variable {X : Cx} {Ta : List Addr} {nm : Str} {e a b : Expr} {r ra rb : DR} {rq : DRQ} {rs : DRA} {pos p : Pos} {x : Str}
theorem test_of {t : TE} {rr : DR} (h : ∀ σ H Q, tD Ta nm rr σ H Q → t σ H Q) : ∀ σ H Q, tDT Ta nm (rTest rr) σ H Q → tTest t σ H Q := fun σ H Q ⟨C, E, q, st, hr, k⟩ => h σ H (fun x H1 => ∃ c, x = .bl c ∧ Q c H1) ⟨C, E, _, st, hr, fun d v H1 g1 k1 sd ⟨b, e, hq⟩ => by
  subst e
  exact ⟨b, sd_bool sd, k b H1 g1 k1 hq⟩⟩
/-! ### == [] and == () -/
@[simp] def rNilL (n : Bool) (rq : DRQ) : DR := fun E q => rq E fun k xs => k = true ∧ q (.bool (n != xs.isEmpty))
@[simp] def rNilT (n : Bool) (rq : DRQ) : DR := fun E q => rq E fun k xs => k = false ∧ q (.bool (n != xs.isEmpty))
theorem SdL.empty {M : Hp} {vs : List V} {ds : List PyData} (h : SdL M vs ds) : vs.isEmpty = ds.isEmpty := by cases h <;> rfl
theorem nilL_run {K : PySem.W.Frag} (n : Bool) : ∀ σ H Q, tD Ta nm (rNilL n rq) σ H Q → tOp (rEqL0 K fun b => n != b) (tDQ Ta nm rq) (tLst tNil) σ H Q := fun σ H Q ⟨C, E, q, s, hr, k⟩ => ⟨C, E, _, s, hr, fun kk xs a vs H1 g1 k1 ha sds nz nd ⟨ek, hq⟩ => by
  subst ek
  refine ⟨by show 0 ≤ sizeLine; exact Nat.zero_le _, fun p hp => ⟨a, p, vs, rfl, rfl, SqL.of (same_new hp _ _ _ ha), SqL.of upd_same, ?_⟩⟩
  rw [sds.empty]
  exact k _ _ _ (g1.trans (Same.go (same_new hp _))) (k1.same (same_new hp _)) (.bl _) hq⟩
theorem nilT_run {K : PySem.W.Frag} (n : Bool) : ∀ σ H Q, tD Ta nm (rNilT n rq) σ H Q → tOp (rEqT0 K fun b => n != b) (tDQ Ta nm rq) (tTup tNil) σ H Q := fun σ H Q ⟨C, E, q, s, hr, k⟩ => ⟨C, E, _, s, hr, fun kk xs a vs H1 g1 k1 ha sds nz nd ⟨ek, hq⟩ => by
  subst ek
  refine ⟨by show 0 ≤ sizeLine; exact Nat.zero_le _, fun p hp => ⟨a, p, vs, rfl, rfl, SqT.of (same_new hp _ _ _ ha), SqT.of upd_same, ?_⟩⟩
  rw [sds.empty]
  exact k _ _ _ (g1.trans (Same.go (same_new hp _))) (k1.same (same_new hp _)) (.bl _) hq⟩
theorem op_neL0' {X : Cx} (hu : X.A.units < cLine) : OpR X (compareOp .NotEq) (rEqL0 X.K fun b => true != b) := by
  intro pins s σ H x y v u Q I rx ry h
  obtain ⟨a, b, xs, rfl, rfl, ha, hb, q⟩ := h
  cases rx
  cases ry
  obtain ⟨its, r1, p1, _⟩ := I.list ha
  obtain ⟨its2, r2, p2, _⟩ := I.list hb
  cases r2
  cases r1 with
  | nil => exact SeqAt.RcNeAt.lists (e := fun _ => true) p1.isList p2.isList rfl hu (fun j h1 _ => absurd h1 (by simp)) _ _ _ _ ⟨.bl _, H, I, rfl, by simpa using q⟩
  | cons _ _ => exact SeqAt.RcNeAt.lists_lengths p1.isList p2.isList (by simp) hu _ _ _ _ ⟨.bl _, H, I, rfl, by simpa using q⟩
theorem opr_as {f : Value → Value → Sem Value} {r r' : R2} (h : OpR X f r) (e : r = r') : OpR X f r' := e ▸ h
theorem k_id {K : PySem.W.Frag} : rEqL0 K id = rEqL0 K fun b => false != b := by congr 1; funext b; cases b <;> rfl
theorem k_idT {K : PySem.W.Frag} : rEqT0 K id = rEqT0 K fun b => false != b := by congr 1; funext b; cases b <;> rfl
theorem k_notT {K : PySem.W.Frag} : rEqT0 K not = rEqT0 K fun b => true != b := by congr 1; funext b; cases b <;> rfl
theorem dx_eqL (hu : X.A.units < cLine) (h : PE X a (tDQ Ta nm rq)) : PE X (.Compare a [.Eq] [.List [] p] pos) (tD Ta nm (rNilL false rq)) := PE.weak (pe_cmpR (opr_as (op_eqL0 hu) k_id) h (pe_lst pa_nil) (nomark _)) (nilL_run false)
theorem dx_neL (hu : X.A.units < cLine) (h : PE X a (tDQ Ta nm rq)) : PE X (.Compare a [.NotEq] [.List [] p] pos) (tD Ta nm (rNilL true rq)) := PE.weak (pe_cmpR (op_neL0' hu) h (pe_lst pa_nil) (nomark _)) (nilL_run true)
theorem dt_eqL (hu : X.A.units < cLine) (h : PE X a (tDQ Ta nm rq)) : L2.PT X (.Compare a [.Eq] [.List [] p] pos) (tDT Ta nm (rTest (rNilL false rq))) := PTx.weak (pt_cmpR (opr_as (op_eqL0 hu) k_id) h (pe_lst pa_nil) (nomark _)) (test_of (nilL_run false))
theorem dt_neL (hu : X.A.units < cLine) (h : PE X a (tDQ Ta nm rq)) : L2.PT X (.Compare a [.NotEq] [.List [] p] pos) (tDT Ta nm (rTest (rNilL true rq))) := PTx.weak (pt_cmpR (op_neL0' hu) h (pe_lst pa_nil) (nomark _)) (test_of (nilL_run true))
theorem dt_eqT {x1} (hu : X.A.units < cLine) (h : PE X a (tDQ Ta nm rq)) : L2.PT X (.Compare a [.Eq] [.Tuple [] x1 p] pos) (tDT Ta nm (rTest (rNilT false rq))) := PTx.weak (pt_cmpR (opr_as (op_eqT0 hu) k_idT) h (pe_tup pa_nil) (nomark _)) (test_of (nilT_run false))
theorem dt_neT {x1} (hu : X.A.units < cLine) (h : PE X a (tDQ Ta nm rq)) : L2.PT X (.Compare a [.NotEq] [.Tuple [] x1 p] pos) (tDT Ta nm (rTest (rNilT true rq))) := PTx.weak (pt_cmpR (opr_as (op_neT0 hu) k_notT) h (pe_tup pa_nil) (nomark _)) (test_of (nilT_run true))
/-! ### subscripts -/
theorem SdL.atI {M : Hp} {vs : List V} {ds : List PyData} (h : SdL M vs ds) {n : Int} {d : PyData} (e : L2.atI ds n = some d) : ∃ v, L2.atI vs n = some v ∧ Sd M v d := by
  unfold L2.atI at e ⊢
  rw [h.len]
  cases q : ixN ds.length n with
  | none => rw [q] at e; cases e
  | some j =>
    rw [q] at e
    have e : ds[j]? = some d := e
    have hj := (List.getElem?_eq_some_iff.mp e).1
    have hv : vs[j]? = some (vs[j]'(by rw [h.len]; exact hj)) := List.getElem?_eq_getElem _
    obtain ⟨d', h1, h2⟩ := h.get hv
    rw [e] at h1
    cases h1
    exact ⟨_, hv, h2⟩
def rIxQ (K : PySem.W.Frag) : R2 := fun x y H Q => rIxL K x y H Q ∨ rIxT K x y H Q
theorem ix_Q : IxR X (rIxQ X.K) := fun value slice pins s σ H x y v u Q I rx ry h hs => h.elim (fun h => ix_list value slice pins s σ H x y v u Q I rx ry h hs) fun h => ix_tup value slice pins s σ H x y v u Q I rx ry h hs
@[simp] def rIx (rq : DRQ) (ri : DR) : DR := fun E q => rq E fun _ xs => ri E fun d => ∃ n y, d = .int n ∧ L2.atI xs n = some y ∧ q y
theorem dx_ixQ (h : PE X a (tDQ Ta nm rq)) (hb : PE X b (tD Ta nm r)) (hs : PlainIx b) : PE X (.Subscript a b pos) (tD Ta nm (rIx rq r)) := PE.weak (pe_ix ix_Q h hb hs) fun σ H Q ⟨C, E, q, s, hr, k⟩ => ⟨C, E, _, s, hr, fun kk xs a vs H1 g1 k1 ha sds nz nd hq => ⟨C, E, _, s.step g1 k1, hq, fun d v H2 g2 k2 sd ⟨n, y, en, ey, hq⟩ => by
  subst en
  have ha2 := g2 a _ ha (fun ps z => by cases kk <;> cases z) nd
  obtain ⟨w, ew, sw⟩ := (sds.sm (Go.zof g2)).atI ey
  have fin := k y w H2 (g1.trans g2) k2 sw hq
  cases kk with
  | true => exact .inl ⟨a, vs, n, w, rfl, sd_int sd, SqL.of ha2, ew, fin⟩
  | false => exact .inr ⟨a, vs, n, w, rfl, sd_int sd, SqT.of ha2, ew, fin⟩⟩⟩
/-- a subscript of data of any kind -/
def rIxA (K : PySem.W.Frag) : R2 := fun x y H Q => rIxQ K x y H Q ∨ rIxS x y H Q
theorem ix_A : IxR X (rIxA X.K) := fun value slice pins s σ H x y v u Q I rx ry h hs => h.elim (fun h => ix_Q value slice pins s σ H x y v u Q I rx ry h hs) fun h => ix_str value slice pins s σ H x y v u Q I rx ry h hs
def gIx : DG2 := fun d e q => ∃ n, e = .int n ∧ ((∃ xs y, (d = .list xs ∨ d = .tuple xs) ∧ L2.atI xs n = some y ∧ q y) ∨ ∃ z c, d = .str z ∧ z.length ≤ sizeLine ∧ L2.atI z.cps.toList n = some c ∧ q (.str ⟨#[c]⟩))
theorem opS_ix {K : PySem.W.Frag} : OpS (rIxA K) gIx := fun Z H x y d e q Q _ hx hy ⟨n, en, h⟩ k => by
  subst en
  rcases h with ⟨xs, w, hd, ew, hq⟩ | ⟨z, c, rfl, hz, ec, hq⟩
  · rcases hd with rfl | rfl
    · obtain ⟨a, vs, rfl, ha, sds⟩ := sd_lst hx
      obtain ⟨u, eu, su⟩ := sds.atI ew
      exact .inl (.inl ⟨a, vs, n, u, rfl, sd_int hy, SqL.of (msk_some.mp ha).2, eu, k w u H (Same.refl _) su hq⟩)
    · obtain ⟨a, vs, rfl, ha, sds⟩ := sd_tup hx
      obtain ⟨u, eu, su⟩ := sds.atI ew
      exact .inl (.inr ⟨a, vs, n, u, rfl, sd_int hy, SqT.of (msk_some.mp ha).2, eu, k w u H (Same.refl _) su hq⟩)
  · exact .inr ⟨z, n, c, sd_str hx, sd_int hy, hz, ec, k _ _ H (Same.refl _) (.str _) hq⟩
/-! ### slices -/
def cutL {α : Type} (xs : List α) (lo hi : Option Int) : List α := (xs.drop (HT.sIx xs.length 0 lo)).take (HT.sIx xs.length xs.length hi - HT.sIx xs.length 0 lo)
theorem SdL.drop {M : Hp} : ∀ {vs : List V} {ds : List PyData} (n : Nat), SdL M vs ds → SdL M (vs.drop n) (ds.drop n)
  | _, _, 0, h => h
  | _, _, _ + 1, .nil => .nil
  | _, _, n + 1, .cons _ t => SdL.drop n t
theorem SdL.take {M : Hp} : ∀ {vs : List V} {ds : List PyData} (n : Nat), SdL M vs ds → SdL M (vs.take n) (ds.take n)
  | _, _, 0, _ => .nil
  | _, _, _ + 1, .nil => .nil
  | _, _, n + 1, .cons h t => .cons h (SdL.take n t)
theorem SdL.cut {M : Hp} {vs : List V} {ds : List PyData} (h : SdL M vs ds) (lo hi : Option Int) : SdL M (cutV vs lo hi) (cutL ds lo hi) := by
  unfold cutV cutL
  rw [h.len]
  exact (h.drop _).take _
theorem SdL.rev {M : Hp} : ∀ {vs : List V} {ds : List PyData}, SdL M vs ds → SdL M vs.reverse ds.reverse
  | _, _, .nil => .nil
  | _, _, .cons h t => by rw [List.reverse_cons, List.reverse_cons]; exact t.rev.app (.cons h .nil)
def rSlD (K : PySem.W.Frag) : V → Option Int → Option Int → Hp → VK → Prop := fun x lo hi H Q => rSlA K x lo hi H Q ∨ (rSlL K x lo hi H Q ∨ rSlS x lo hi H Q)
theorem sl_D : SlR X (rSlD X.K) := SlR.or sl_tupA (SlR.or sl_list sl_str)
def gSl (d : PyData) (lo hi : Option Int) (q : PyData → Prop) : Prop := (∃ z, d = .str z ∧ z.length ≤ sizeLine ∧ q (.str (cutS z lo hi))) ∨ (∃ xs, d = .tuple xs ∧ q (.tuple (cutL xs lo hi))) ∨ ∃ xs, d = .list xs ∧ q (.list (cutL xs lo hi))
abbrev DRO := DEnv → (Option Int → Prop) → Prop
def tDO (Ta : List Addr) (nm : Str) (r : DRO) : TO := fun σ H Q => ∃ (C : DC Ta nm) (E : DEnv) (q : Option Int → Prop), St C H σ E ∧ r E q ∧ ∀ n H', Go C H H' → Ok C H' → q n → Q n H'
theorem POx.weak {t t' : TO} {o : Option Expr} (h : PO X o t) (k : ∀ σ H Q, t' σ H Q → t σ H Q) : PO X o t' := ⟨fun pins s σ H Q I w => h.run pins s σ H Q I (k σ H Q w)⟩
@[simp] def roN : DRO := fun _ q => q none
@[simp] def roS (r : DR) : DRO := fun E q => r E fun d => ∃ n, d = .int n ∧ q (some n)
theorem do_n : PO X none (tDO Ta nm roN) := POx.weak po_none fun σ H Q ⟨C, E, q, s, hr, k⟩ => k none H Go.refl s.ok hr
theorem do_s (h : PE X e (tD Ta nm r)) : PO X (some e) (tDO Ta nm (roS r)) := POx.weak (po_some h) fun σ H Q ⟨C, E, q, s, hr, k⟩ => ⟨C, E, _, s, hr, fun d v H1 g1 k1 sd ⟨n, en, hq⟩ => by
  subst en
  exact ⟨n, sd_int sd, k _ H1 g1 k1 hq⟩⟩
@[simp] def rSl (r : DR) (lo hi : DRO) : DR := fun E q => r E fun d => lo E fun l => hi E fun h => gSl d l h q
theorem dx_sl {lo hi : Option Expr} {rl rh : DRO} {p2 : Pos} (h : PE X a (tD Ta nm r)) (hl : PO X lo (tDO Ta nm rl)) (hh : PO X hi (tDO Ta nm rh)) : PE X (.Subscript a (.Slice lo hi none p2) pos) (tD Ta nm (rSl r rl rh)) := PE.weak (pe_slice sl_D h hl hh) fun σ H Q ⟨C, E, q, s, hr, k⟩ =>
  ⟨C, E, _, s, hr, fun d v H1 g1 k1 sd hq1 => ⟨C, E, _, s.step g1 k1, hq1, fun l H2 g2 k2 hq2 => ⟨C, E, _, (s.step g1 k1).step g2 k2, hq2, fun hb H3 g3 k3 hq => by
    have st3 := ((s.step g1 k1).step g2 k2).step g3 k3
    have sd3 := sd.sm (Go.zof (σ := σ) (E := E) (g2.trans g3))
    have g13 := (g1.trans g2).trans g3
    rcases hq with ⟨z, rfl, hz, hq⟩ | ⟨xs, rfl, hq⟩ | ⟨xs, rfl, hq⟩
    · exact .inr (.inr ⟨z, sd_str sd3, hz, k _ _ H3 g13 k3 (.str _) hq⟩)
    · obtain ⟨a, vs, rfl, ha, sds⟩ := sd_tup sd3
      refine .inl ⟨a, vs, rfl, SqT.of (msk_some.mp ha).2, fun e => ?_, fun _ p hp => ?_⟩
      · have : cutL xs l hb = xs := by
          unfold cutL
          rw [← sds.len, e.1, e.2, List.drop_zero, Nat.sub_zero, List.take_of_length_le (by rw [sds.len]; exact Nat.le_refl _)]
        rw [this] at hq
        exact k _ _ H3 g13 k3 (.tup ha sds) hq
      · exact k _ _ _ (g13.trans (Same.go (same_new hp _))) (k3.same (same_new hp _)) (.tup (msk_at (st3.new hp)) (SdL.same (msk_new hp) (sds.cut l hb))) hq
    · obtain ⟨a, vs, rfl, ha, sds⟩ := sd_lst sd3
      exact .inr (.inl ⟨a, vs, rfl, SqL.of (msk_some.mp ha).2, fun p hp => k _ _ _ (g13.trans (Same.go (same_new hp _))) (k3.same (same_new hp _)) (.lst (msk_at (st3.new hp)) (SdL.same (msk_new hp) (sds.cut l hb))) hq⟩)⟩⟩⟩
/-- t[::-1] of a tuple -/
@[simp] def rRevT (r : DR) : DR := fun E q => r E fun d => ∃ xs, d = .tuple xs ∧ q (.tuple xs.reverse)
theorem dx_revT {k : Nat} {p1 p2 p3 : Pos} (h : PE X e (tD Ta nm r)) : PE X (.Subscript e (.Slice none none (some (.UnaryOp .USub (.Constant (.int 1) k p1) p2)) p3) pos) (tD Ta nm (rRevT r)) := PE.weak (pe_revT h) fun σ H Q ⟨C, E, q, s, hr, k⟩ => ⟨C, E, _, s, hr, fun d v H1 g1 k1 sd ⟨xs, ed, hq⟩ => by
  subst ed
  obtain ⟨a, vs, rfl, ha, sds⟩ := sd_tup sd
  exact ⟨a, vs, rfl, SqT.of (msk_some.mp ha).2, fun p hp => k _ _ _ (g1.trans (Same.go (same_new hp _))) (k1.same (same_new hp _)) (.tup (msk_at ((s.step g1 k1).new hp)) (SdL.same (msk_new hp) sds.rev)) hq⟩⟩
/-! ### tuples put together, signs in texts -/
@[simp] def gCatT : DG2 := fun d e q => ∃ xs ys, d = .tuple xs ∧ e = .tuple ys ∧ xs.length + ys.length ≤ sizeLine ∧ q (.tuple (xs ++ ys))
theorem opS_catT {K : PySem.W.Frag} : OpS (rCatA K) gCatT := fun Z H x y d e q Q nz hx hy ⟨xs, ys, e1, e2, hl, hq⟩ k => by
  subst e1 e2
  obtain ⟨a, vs, rfl, ha, sa⟩ := sd_tup hx
  obtain ⟨b, ws, rfl, hb, sb⟩ := sd_tup hy
  refine ⟨a, b, vs, ws, rfl, rfl, SqT.of (msk_some.mp ha).2, SqT.of (msk_some.mp hb).2, by rw [sa.len, sb.len]; exact hl, fun e => ?_, fun _ e => ?_, fun _ _ p hp => ?_⟩
  · subst e
    cases sa
    exact k _ _ H (Same.refl _) (.tup hb sb) hq
  · subst e
    cases sb
    rw [List.append_nil] at hq
    exact k _ _ H (Same.refl _) (.tup ha sa) hq
  · exact k _ _ _ (same_new hp _) (.tup (msk_at (nz p hp)) (SdL.same (msk_new hp) (sa.app sb))) hq
@[simp] def gCatL : DG2 := fun d e q => ∃ xs ys, d = .list xs ∧ e = .list ys ∧ xs.length + ys.length ≤ sizeLine ∧ q (.list (xs ++ ys))
theorem opS_catL : OpS rCat gCatL := fun Z H x y d e q Q nz hx hy ⟨xs, ys, e1, e2, hl, hq⟩ k => by
  subst e1 e2
  obtain ⟨a, vs, rfl, ha, sa⟩ := sd_lst hx
  obtain ⟨b, ws, rfl, hb, sb⟩ := sd_lst hy
  exact ⟨a, b, vs, ws, rfl, rfl, (msk_some.mp ha).2, (msk_some.mp hb).2, by rw [sa.len, sb.len]; exact hl, fun p hp => k _ _ _ (same_new hp _) (.lst (msk_at (nz p hp)) (SdL.same (msk_new hp) (sa.app sb))) hq⟩
/-- a sign in a text -/
@[simp] def gIn (n : Bool) : DG2 := fun d e q => ∃ (c : Nat) (z : Str), d = .str ⟨#[c]⟩ ∧ e = .str z ∧ q (.bool (n != decide (c ∈ z.cps.toList)))
theorem opS_in : OpS (fun x y H Q => ∃ (c : Nat) (z : Str), x = .str ⟨#[c]⟩ ∧ y = .str z ∧ Q (.bl (decide (c ∈ z.cps.toList))) H) (gIn false) := fun Z H x y d e q Q _ hx hy ⟨c, z, e1, e2, hq⟩ k => by
  subst e1 e2
  exact ⟨c, z, sd_str hx, sd_str hy, k _ _ H (Same.refl _) (.bl _) (by simpa using hq)⟩
theorem opS_notIn : OpS (fun x y H Q => ∃ (c : Nat) (z : Str), x = .str ⟨#[c]⟩ ∧ y = .str z ∧ Q (.bl (!decide (c ∈ z.cps.toList))) H) (gIn true) := fun Z H x y d e q Q _ hx hy ⟨c, z, e1, e2, hq⟩ k => by
  subst e1 e2
  exact ⟨c, z, sd_str hx, sd_str hy, k _ _ H (Same.refl _) (.bl _) (by simpa using hq)⟩
/-- flat data in a row of flat data -/
def flatD : PyData → Bool
  | .list _ => false
  | .tuple _ => false
  | .dict _ => false
  | _ => true
@[simp] def gInQ (n : Bool) : DG2 := fun d e q => ∃ xs, (e = .list xs ∨ e = .tuple xs) ∧ flatD d = true ∧ xs.all flatD = true ∧ q (.bool (n != xs.any fun y => PyData.eqv y d))
theorem flat_v {M : Hp} {v : V} {d : PyData} (h : Sd M v d) (k : flatD d = true) : flatV v = true := by cases h <;> first | rfl | cases k
theorem flat_eq {M : Hp} {v w : V} {d e : PyData} (h : Sd M v d) (h' : Sd M w e) (k : flatD d = true) (k' : flatD e = true) : eqV v w = PyData.eqv d e := by
  cases h <;> cases h' <;> first | (cases k; done) | (cases k'; done) | (simp [eqV, PyData.eqv]; done) | rfl
theorem flat_any {M : Hp} {w : V} {e : PyData} (h' : Sd M w e) (k' : flatD e = true) : ∀ {vs : List V} {ds : List PyData}, SdL M vs ds → ds.all flatD = true → vs.all flatV = true ∧ inV w vs = ds.any fun y => PyData.eqv y e
  | _, _, .nil, _ => ⟨rfl, rfl⟩
  | _, _, .cons h t, k => by
    rw [List.all_cons, Bool.and_eq_true] at k
    obtain ⟨h1, h2⟩ := flat_any h' k' t k.2
    refine ⟨by rw [List.all_cons, flat_v h k.1, h1]; rfl, ?_⟩
    unfold inV at h2 ⊢
    rw [List.any_cons, List.any_cons, h2, flat_eq h h' k.1 k']
theorem opS_inQ {K : PySem.W.Frag} : OpS (rIn K false) (gInQ false) := fun Z H x y d e q Q _ hx hy ⟨xs, he, fd, fx, hq⟩ k => by
  rcases he with rfl | rfl
  · obtain ⟨a, vs, rfl, ha, sa⟩ := sd_lst hy
    obtain ⟨h1, h2⟩ := flat_any hx fd sa fx
    exact ⟨a, vs, rfl, .inl (SqL.of (msk_some.mp ha).2), flat_v hx fd, h1, k _ _ H (Same.refl _) (.bl _) (by simpa [h2] using hq)⟩
  · obtain ⟨a, vs, rfl, ha, sa⟩ := sd_tup hy
    obtain ⟨h1, h2⟩ := flat_any hx fd sa fx
    exact ⟨a, vs, rfl, .inr (SqT.of (msk_some.mp ha).2), flat_v hx fd, h1, k _ _ H (Same.refl _) (.bl _) (by simpa [h2] using hq)⟩
theorem opS_notInQ {K : PySem.W.Frag} : OpS (rIn K true) (gInQ true) := fun Z H x y d e q Q _ hx hy ⟨xs, he, fd, fx, hq⟩ k => by
  rcases he with rfl | rfl
  · obtain ⟨a, vs, rfl, ha, sa⟩ := sd_lst hy
    obtain ⟨h1, h2⟩ := flat_any hx fd sa fx
    exact ⟨a, vs, rfl, .inl (SqL.of (msk_some.mp ha).2), flat_v hx fd, h1, k _ _ H (Same.refl _) (.bl _) (by simpa [h2] using hq)⟩
  · obtain ⟨a, vs, rfl, ha, sa⟩ := sd_tup hy
    obtain ⟨h1, h2⟩ := flat_any hx fd sa fx
    exact ⟨a, vs, rfl, .inr (SqT.of (msk_some.mp ha).2), flat_v hx fd, h1, k _ _ H (Same.refl _) (.bl _) (by simpa [h2] using hq)⟩
end
end Zk

set_option maxHeartbeats 1000000
/-! V6: walks, for, over data. -/
namespace Zk
open PySem PySem.Spec PyProof.Rows L2 GxR
/-- what a walk may lean on stays -/
def Keep (Z : Addr → Prop) (H H' : Hp) : Prop := ∀ b o, H b = some o → (∀ ps, o ≠ .tbl ps) → ¬ Z b → H' b = some o
/-- an item's data, wherever what stood ahead of the walk may be leaned on, and what is new -/
def ItemOk (Z : Addr → Prop) (H1 H2 H3 : Hp) (x : V) (d : PyData) : Prop := ∀ M : Hp, (∀ b o, msk Z H1 b = some o → (∀ ps, o ≠ .tbl ps) → M b = some o) → (∀ b o, H2 b = none → H3 b = some o → M b = some o) → Sd M x d
/-- the iterator J yields the items xs -/
def Walks (Z : Addr → Prop) (H1 : Hp) (J : It) (xs : List PyData) : Prop := ∀ H2 i, Keep Z H1 H2 → (i = xs.length → J.stop i H2) ∧ ∀ d, xs[i]? = some d → J.go i H2 ∧ ∀ x H3, J.yld i H2 x H3 → Same H2 H3 ∧ (∀ b ps, H2 b = none → H3 b ≠ some (.tbl ps)) ∧ ItemOk Z H1 H2 H3 x d
abbrev DRI := DEnv → (List PyData → Prop) → Prop
def tDI (Ta : List Addr) (nm : Str) (r : DRI) : TI := fun σ H R => ∃ (C : DC Ta nm) (E : DEnv) (q : List PyData → Prop), St C H σ E ∧ r E q ∧ ∀ xs J H1, Go C H H1 → Ok C H1 → Walks (Zof C σ E) H1 J xs → q xs → R J H1
section
variable {X : Cx} {Ta : List Addr} {nm : Str} {e a b tg : Expr} {r ra rb : DR} {rs : DRA} {pos p : Pos}
theorem PIx.weak {w w' : TI} {tg iter : Expr} (h : PI X tg iter w) (k : ∀ σ H R, w' σ H R → w σ H R) : PI X tg iter w' := ⟨fun pins s σ H R I q => h.run pins s σ H R I (k σ H R q)⟩
def iSeq' (K : PySem.W.Frag) (te : TE) : TI := fun σ H R => te σ H fun x H1 => (∃ a xs, x = .ref a ∧ SqL K H1 a xs ∧ R (Itl K a) H1) ∨ (∃ a xs, x = .ref a ∧ SqT K H1 a xs ∧ R (Itt K a) H1)
theorem pi_seq' {l : Expr} {tl : TE} (hl : PE X l tl) : PI X tg l (iSeq' X.K tl) := by
  refine ⟨fun pins s σ H R I h => ?_⟩
  refine thn (hl.run pins s σ H _ I h) fun v s1 ⟨x, H1, I1, r1, q1⟩ => ?_
  rcases q1 with ⟨a, xs, e, hq, q⟩ | ⟨a, xs, e, hq, q⟩
  · subst e
    cases r1
    obtain ⟨its, rv, p, hz⟩ := I1.list hq
    refine wpAny_pyIter_list p.isList ?_
    refine ⟨s1.heap.objs.size, [s1.heap.objs.size], _, _, H1, rfl, I1.kept (t' := s1.toks) fun b o e => Heap.get?_push_of_some _ e, turn_list a _, ⟨_, Heap.get?_push_size _ rfl, rfl, rfl⟩, fun b hb => ?_, q⟩
    have e : b = s1.heap.objs.size := by simpa using hb
    subst e
    exact I1.fpOk (Nat.le_refl _) (I1.hok.fresh (Nat.le_refl _))
  · subst e
    cases r1
    obtain ⟨its, rv, p, hz⟩ := I1.tuple hq
    refine wpAny_pyIter_tuple (show s1.heap.IsTuple a its.toArray from p) ?_
    refine ⟨s1.heap.objs.size, [s1.heap.objs.size], _, _, H1, rfl, I1.kept (t' := s1.toks) fun b o e => Heap.get?_push_of_some _ e, turn_tuple a _, ⟨_, Heap.get?_push_size _ rfl, rfl, rfl⟩, fun b hb => ?_, q⟩
    have e : b = s1.heap.objs.size := by simpa using hb
    subst e
    exact I1.fpOk (Nat.le_refl _) (I1.hok.fresh (Nat.le_refl _))
theorem item_of {Z : Addr → Prop} {H1 H2 H3 : Hp} {x : V} {d : PyData} (h : Sd (msk Z H1) x d) : ItemOk Z H1 H2 H3 x d := fun M up _ => h.sm fun b o e n => up b o e n
/-- over a list or a tuple that is data -/
@[simp] def riSeq (r : DR) : DRI := fun E q => r E fun d => ∃ xs, (d = .list xs ∨ d = .tuple xs) ∧ q xs
theorem di_seq (h : PE X e (tD Ta nm r)) : PI X tg e (tDI Ta nm (riSeq r)) := PIx.weak (pi_seq' h) fun σ H R ⟨C, E, q, s, hr, k⟩ => ⟨C, E, _, s, hr, fun d v H1 g1 k1 sd ⟨xs, hd, hq⟩ => by
  rcases hd with rfl | rfl
  · obtain ⟨a, vs, rfl, ha, sds⟩ := sd_lst sd
    obtain ⟨nz, ha⟩ := msk_some.mp ha
    refine .inl ⟨a, vs, rfl, SqL.of ha, k xs _ H1 g1 k1 (fun H2 i kp => ?_) hq⟩
    have h2 := SqL.of (K := X.K) (kp a _ ha (fun _ z => nomatch z) nz)
    refine ⟨fun e => ⟨vs, h2, by rw [sds.len, e]; exact Nat.le_refl _⟩, fun d hd => ?_⟩
    have hi := (List.getElem?_eq_some_iff.mp hd).1
    have hv : vs[i]? = some (vs[i]'(by rw [sds.len]; exact hi)) := List.getElem?_eq_getElem _
    refine ⟨⟨vs, _, h2, hv⟩, fun x H3 y => ?_⟩
    obtain ⟨rfl, y⟩ := y
    obtain ⟨d', e1, e2⟩ := sds.get (y vs h2)
    rw [hd] at e1
    cases e1
    exact ⟨Same.refl _, (fun b ps e1 e2 => by rw [e1] at e2; cases e2), item_of e2⟩
  · obtain ⟨a, vs, rfl, ha, sds⟩ := sd_tup sd
    obtain ⟨nz, ha⟩ := msk_some.mp ha
    refine .inr ⟨a, vs, rfl, SqT.of ha, k xs _ H1 g1 k1 (fun H2 i kp => ?_) hq⟩
    have h2 := SqT.of (K := X.K) (kp a _ ha (fun _ z => nomatch z) nz)
    refine ⟨fun e => ⟨vs, h2, by rw [sds.len, e]; exact Nat.le_refl _⟩, fun d hd => ?_⟩
    have hi := (List.getElem?_eq_some_iff.mp hd).1
    have hv : vs[i]? = some (vs[i]'(by rw [sds.len]; exact hi)) := List.getElem?_eq_getElem _
    refine ⟨⟨vs, _, h2, hv⟩, fun x H3 y => ?_⟩
    obtain ⟨rfl, y⟩ := y
    obtain ⟨d', e1, e2⟩ := sds.get (y vs h2)
    rw [hd] at e1
    cases e1
    exact ⟨Same.refl _, (fun b ps e1 e2 => by rw [e1] at e2; cases e2), item_of e2⟩⟩
/-- over the signs of a text -/
def signsD (z : Str) : List PyData := z.cps.toList.map fun c => .str ⟨#[c]⟩
@[simp] def riStr (r : DR) : DRI := fun E q => r E fun d => ∃ z, d = .str z ∧ q (signsD z)
theorem di_str (h : PE X e (tD Ta nm r)) : PI X tg e (tDI Ta nm (riStr r)) := PIx.weak (pi_str h) fun σ H R ⟨C, E, q, s, hr, k⟩ => ⟨C, E, _, s, hr, fun d v H1 g1 k1 sd ⟨z, ez, hq⟩ => by
  subst ez
  refine ⟨z, sd_str sd, k _ _ H1 g1 k1 (fun H2 i kp => ⟨fun e => ?_, fun d hd => ?_⟩) hq⟩
  · rw [e]
    show z.cps.size ≤ _
    simp [signsD]
  · have hd' := hd
    unfold signsD at hd'
    rw [List.getElem?_map] at hd'
    cases hc : z.cps.toList[i]? with
    | none => rw [hc] at hd'; cases hd'
    | some c =>
      rw [hc] at hd'
      cases hd'
      refine ⟨?_, fun x H3 y => ?_⟩
      · show i < z.cps.size
        have := (List.getElem?_eq_some_iff.mp hc).1
        simpa using this
      · obtain ⟨rfl, c', e1, rfl⟩ := y
        have : c' = c := by
          have e2 : z.cps.toList[i]? = some c' := by simpa using e1
          rw [hc] at e2
          exact (Option.some.inj e2).symm
        subst this
        exact ⟨Same.refl _, (fun b ps e1 e2 => by rw [e1] at e2; cases e2), fun M _ _ => .str _⟩⟩
/-- range(n), range(a, b) -/
def intsD (lo : Int) (n : Nat) : List PyData := (List.range n).map fun (i : Nat) => .int (lo + i)
theorem ints_get {lo : Int} {n i : Nat} {d : PyData} : (intsD lo n)[i]? = some d ↔ i < n ∧ d = .int (lo + i) := by
  unfold intsD
  rw [List.getElem?_map]
  by_cases h : i < n
  · rw [List.getElem?_range h]
    simp [h, eq_comm]
  · rw [List.getElem?_eq_none (by simpa using h)]
    simp [h]
theorem ints_len {lo : Int} {n : Nat} : (intsD lo n).length = n := by simp [intsD]
theorem walks_range {Z : Addr → Prop} {H1 : Hp} {lo : Int} {n : Nat} : Walks Z H1 (Itr lo n) (intsD lo n) := fun H2 i kp => ⟨fun e => by rw [e, ints_len]; exact Nat.le_refl _, fun d hd => by
  obtain ⟨hi, rfl⟩ := ints_get.mp hd
  refine ⟨hi, fun x H3 y => ?_⟩
  obtain ⟨rfl, rfl⟩ := y
  exact ⟨Same.refl _, (fun b ps e1 e2 => by rw [e1] at e2; cases e2), fun M _ _ => .int _⟩⟩
@[simp] def riRange (r : DR) : DRI := fun E q => r E fun d => ∃ n : Int, d = .int n ∧ -(2 ^ 62) ≤ n ∧ n < 2 ^ 62 ∧ q (intsD 0 n.toNat)
theorem di_range (hg : Gl X "range") (hm : X.mg "range" = none) (h : PE X a (tD Ta nm r)) (hs : starEach [a] X.env = [(false, eval a X.env)] := by rfl) : PI X tg (.Call (.Name "range" p) [a] [] pos) (tDI Ta nm (riRange r)) := PIx.weak (pi_range1 hg hm (pa_cons h pa_nil (hs := hs)) hs) fun σ H R ⟨C, E, q, s, hr, k⟩ =>
  ⟨C, E, _, s, hr, fun d v H1 g1 k1 sd ⟨n, en, h1, h2, hq⟩ => by
    subst en
    refine ⟨n, by rw [sd_int sd], h1, h2, k _ _ H1 g1 k1 walks_range hq⟩⟩
@[simp] def riRange2 (ra rb : DR) : DRI := fun E q => ra E fun d => rb E fun d' => ∃ i j : Int, d = .int i ∧ d' = .int j ∧ (-(2 ^ 62) ≤ i ∧ i < 2 ^ 62 ∧ -(2 ^ 62) ≤ j ∧ j < 2 ^ 62) ∧ q (intsD i (j - i).toNat)
theorem di_range2 (hg : Gl X "range") (hm : X.mg "range" = none) (ha : PE X a (tD Ta nm ra)) (hb : PE X b (tD Ta nm rb)) (hs : starEach [a, b] X.env = [(false, eval a X.env), (false, eval b X.env)] := by rfl) (hs2 : starEach [b] X.env = [(false, eval b X.env)] := by rfl) :
    PI X tg (.Call (.Name "range" p) [a, b] [] pos) (tDI Ta nm (riRange2 ra rb)) := PIx.weak (pi_range2 hg hm (pa_cons ha (pa_cons hb pa_nil (hs := hs2)) (hs := by rw [hs, hs2])) hs hs2) fun σ H R ⟨C, E, q, s, hr, k⟩ =>
  ⟨C, E, _, s, hr, fun d v H1 g1 k1 sd hq1 => ⟨C, E, _, s.step g1 k1, hq1, fun d' v' H2 g2 k2 sd' ⟨i, j, e1, e2, hb, hq⟩ => by
    subst e1 e2
    exact ⟨i, j, by rw [sd_int sd, sd_int sd'], hb, k _ _ H2 (g1.trans g2) k2 walks_range hq⟩⟩⟩
/-! ### targets -/
def wipeE (E : DEnv) : List Nat → DEnv
  | [] => E
  | v :: vs => (wipeE E vs).set v .no
abbrev DRG := PyData → DEnv → (DEnv → Prop) → Prop
/-- what a store to slots gs leaves: no more is owned, and the rest -/
def Moved {Ta : List Addr} {nm : Str} (C : DC Ta nm) (σ : L2.St) (E : DEnv) (σ' : L2.St) (E' : DEnv) (gs : List Nat) : Prop := (∀ b, Zof C σ' E' b → Zof C σ E b) ∧ ∀ vs, (∀ j ∈ gs, j ∈ vs) → wipe σ' vs = wipe σ vs ∧ wipeE E' vs = wipeE E vs
/-- a store of data to slots gs -/
def GS (Ta : List Addr) (nm : Str) (gs : List Nat) (g : TG) (rg : DRG) : Prop := ∀ (C : DC Ta nm) (H : Hp) (σ : L2.St) (E : DEnv) (v : V) (d : PyData) (q : DEnv → Prop) (Q : L2.St → Hp → Prop), St C H σ E → Sd (msk (Zof C σ E) H) v d → rg d E q →
  (∀ σ' E', St C H σ' E' → Moved C σ E σ' E' gs → q E' → Q σ' H) → g v σ H Q
@[simp] def rgN (i : Nat) : DRG := fun d E q => i < E.length ∧ q (E.set i (.d d))
theorem wipe_set {σ : L2.St} {i : Nat} {o : Option V} : ∀ {vs : List Nat}, i ∈ vs → wipe (σ.set i o) vs = wipe σ vs
  | v :: vs, h => by
    show (wipe (σ.set i o) vs).set v none = (wipe σ vs).set v none
    by_cases e : i ∈ vs
    · rw [wipe_set e]
    · have hv : v = i := by
        rcases List.mem_cons.mp h with q | q
        · exact q.symm
        · exact absurd q e
      subst hv
      have : ∀ (ws : List Nat), v ∉ ws → wipe (σ.set v o) ws = (wipe σ ws).set v o := by
        intro ws
        induction ws with
        | nil => intro _; rfl
        | cons w ws ih =>
          intro hw
          show (wipe (σ.set v o) ws).set w none = ((wipe σ ws).set w none).set v o
          rw [ih fun z => hw (List.mem_cons_of_mem _ z), List.set_comm _ _ (fun z => hw (by rw [z]; exact List.mem_cons_self))]
      rw [this vs e, List.set_set]
theorem wipeE_set {E : DEnv} {i : Nat} {o : DV} : ∀ {vs : List Nat}, i ∈ vs → wipeE (E.set i o) vs = wipeE E vs
  | v :: vs, h => by
    show (wipeE (E.set i o) vs).set v .no = (wipeE E vs).set v .no
    by_cases e : i ∈ vs
    · rw [wipeE_set e]
    · have hv : v = i := by
        rcases List.mem_cons.mp h with q | q
        · exact q.symm
        · exact absurd q e
      subst hv
      have : ∀ (ws : List Nat), v ∉ ws → wipeE (E.set v o) ws = (wipeE E ws).set v o := by
        intro ws
        induction ws with
        | nil => intro _; rfl
        | cons w ws ih =>
          intro hw
          show (wipeE (E.set v o) ws).set w .no = ((wipeE E ws).set w .no).set v o
          rw [ih fun z => hw (List.mem_cons_of_mem _ z), List.set_comm _ _ (fun z => hw (by rw [z]; exact List.mem_cons_self))]
      rw [this vs e, List.set_set]
theorem gs_n (i : Nat) : GS Ta nm [i] (gName i) (rgN i) := fun C H σ E v d q Q s sd ⟨hi, hq⟩ k => k _ _ (s.put (by rw [s.len]; exact hi) sd) ⟨fun _ => zof_put, fun vs hv => ⟨wipe_set (hv i (by simp)), wipeE_set (hv i (by simp))⟩⟩ hq
end
end Zk

set_option maxHeartbeats 1000000
/-! V7: for, comprehensions, all(..) and any(..), over data. -/
namespace Zk
open PySem PySem.Spec PyProof.Rows L2 GxR
section
variable {Ta : List Addr} {nm : Str}
/-- is owned by a slot -/
def Own (σ : L2.St) (E : DEnv) (b : Addr) : Prop := ∃ (i : Nat) (e : DV), E[i]? = some e ∧ e.own = true ∧ σ[i]? = some (some (V.ref b))
noncomputable def loopC (C : DC Ta nm) (H : Hp) (σ : L2.St) (E : DEnv) : DC Ta nm := ⟨C.dk, C.Z0, msk (Own σ E) (ntb H)⟩
theorem own_none {C : DC Ta nm} {H : Hp} {σ : L2.St} {E : DEnv} {b : Addr} (s : St C H σ E) (o : Own σ E b) : C.He b = none ∧ ¬ C.Z0 b := by
  obtain ⟨i, e, h1, h2, h3⟩ := o
  obtain ⟨x, hx, z⟩ := s.slot i e h1
  rw [h3] at hx
  cases hx
  cases e with
  | d _ => cases h2
  | deck => cases h2
  | no => cases h2
  | lst xs => obtain ⟨a, vs, ea, _, _, n0, n1⟩ := z; cases ea; exact ⟨n0, n1⟩
  | dic xs => obtain ⟨a, vs, ea, _, _, n0, n1⟩ := z; cases ea; exact ⟨n0, n1⟩
  | dct xs => obtain ⟨a, vs, ea, _, _, n0, n1⟩ := z; cases ea; exact ⟨n0, n1⟩
theorem loop_he {C : DC Ta nm} {H : Hp} {σ : L2.St} {E : DEnv} {b : Addr} (s : St C H σ E) (h : C.He b ≠ none) : (loopC C H σ E).He b ≠ none := by
  obtain ⟨o, e, n⟩ := s.tracked h
  have : msk (Own σ E) (ntb H) b = some o := msk_some.mpr ⟨fun z => h (own_none s z).1, ntb_of e n⟩
  show msk (Own σ E) (ntb H) b ≠ none
  rw [this]
  exact fun z => nomatch z
theorem loop_in {C : DC Ta nm} {H : Hp} {σ : L2.St} {E : DEnv} (s : St C H σ E) : St (loopC C H σ E) H σ E := by
  have dk : ∀ b, (loopC C H σ E).Dk b → C.Dk b := fun b k => k
  refine ⟨⟨fun b k => loop_he s (s.wf.dk b k), fun b k => loop_he s (s.wf.zin b k), fun b ps e => ?_⟩, fun b o e _ _ => ?_, ⟨s.ok.tb, s.ok.dk⟩, s.len, fun i e he => ?_, s.dist⟩
  · exact (ntb_to (msk_some.mp e).2).2 ps rfl
  · exact (ntb_to (msk_some.mp e).2).1
  · obtain ⟨o, ho, z⟩ := s.slot i e he
    refine ⟨o, ho, ?_⟩
    cases e with
    | d x => exact z
    | deck => exact z
    | no => trivial
    | lst xs =>
      obtain ⟨a, vs, rfl, h, sd, n0, n1⟩ := z
      refine ⟨a, vs, rfl, h, sd, ?_, n1⟩
      show msk (Own σ E) (ntb H) a = none
      unfold msk
      exact if_pos ⟨i, _, he, rfl, ho⟩
    | dic xs =>
      obtain ⟨a, vs, rfl, h, sd, n0, n1⟩ := z
      refine ⟨a, vs, rfl, h, sd, ?_, n1⟩
      show msk (Own σ E) (ntb H) a = none
      unfold msk
      exact if_pos ⟨i, _, he, rfl, ho⟩
    | dct xs =>
      obtain ⟨a, vs, rfl, h, sd, n0, n1⟩ := z
      refine ⟨a, vs, rfl, h, sd, ?_, n1⟩
      show msk (Own σ E) (ntb H) a = none
      unfold msk
      exact if_pos ⟨i, _, he, rfl, ho⟩
theorem loop_go {C : DC Ta nm} {H H' : Hp} {σ : L2.St} {E : DEnv} (s : St C H σ E) (g : Go (loopC C H σ E) (loopC C H σ E).He H') : Go C C.He H' := fun b o e n d => by
  have h := s.go b o e n d
  exact g b o (msk_some.mpr ⟨(fun z => by rw [(own_none s z).1] at e; cases e), ntb_of h n⟩) n d
theorem loop_out {C : DC Ta nm} {H H' : Hp} {σ σ' : L2.St} {E E' : DEnv} (s : St C H σ E) (t : St (loopC C H σ E) H' σ' E') : St C H' σ' E' := by
  refine ⟨s.wf, loop_go s t.go, ⟨t.ok.tb, t.ok.dk⟩, t.len, fun i e he => ?_, t.dist⟩
  have hn : ∀ a, (loopC C H σ E).He a = none → C.He a = none := fun a h => by
    cases q : C.He a with
    | none => rfl
    | some o => exact absurd h (loop_he s (by rw [q]; exact fun z => nomatch z))
  obtain ⟨o, ho, z⟩ := t.slot i e he
  refine ⟨o, ho, ?_⟩
  cases e with
  | d x => exact z
  | deck => exact z
  | no => trivial
  | lst xs => obtain ⟨a, vs, e, h, sd, n0, n1⟩ := z; exact ⟨a, vs, e, h, sd, hn a n0, n1⟩
  | dic xs => obtain ⟨a, vs, e, h, sd, n0, n1⟩ := z; exact ⟨a, vs, e, h, sd, hn a n0, n1⟩
  | dct xs => obtain ⟨a, vs, e, h, sd, n0, n1⟩ := z; exact ⟨a, vs, e, h, sd, hn a n0, n1⟩
/-- what a walk leans on is kept within the loop -/
theorem loop_keep {C : DC Ta nm} {H H' : Hp} {σ σ' : L2.St} {E E' : DEnv} (t : St (loopC C H σ E) H' σ' E') : Keep (Zof C σ E) H H' := fun b o e n z => t.go b o (msk_some.mpr ⟨fun y => z (.inr (.inr y)), ntb_of e n⟩) n fun k => z (.inr (.inl k))
theorem loop_item {C : DC Ta nm} {H H2 H3 : Hp} {σ σ' : L2.St} {E E' : DEnv} {x : V} {d : PyData} (t : St (loopC C H σ E) H2 σ' E') (sa : Same H2 H3) (h : ItemOk (Zof C σ E) H H2 H3 x d) : Sd (msk (Zof (loopC C H σ E) σ' E') H3) x d := h _ (fun b o e n => by
    obtain ⟨z, e⟩ := msk_some.mp e
    have he : (loopC C H σ E).He b = some o := msk_some.mpr ⟨fun y => z (.inr (.inr y)), ntb_of e n⟩
    refine msk_some.mpr ⟨fun y => ?_, sa _ _ (t.go b o he n fun k => z (.inr (.inl k)))⟩
    rcases y with y | y | y
    · exact z (.inl y)
    · exact z (.inr (.inl y))
    · rw [(own_none t y).1] at he
      cases he) fun b o e1 e2 => msk_some.mpr ⟨t.new e1, e2⟩
variable {X : Cx} {tg iter : Expr} {body : List Stmt} {pos : Pos} {ri : DRI} {g : TG} {rg : DRG} {rb : DRS} {gs : List Nat}
def rFor (ri : DRI) (rg : DRG) (rb : DRS) : DRS := fun K E => ri E fun xs => ∃ I : Nat → DEnv → Prop, I 0 E ∧ (∀ i d E', xs[i]? = some d → I i E' → rg d E' fun E2 => rb { K with nx := I (i + 1), ct := I (i + 1), bk := K.nx } E2) ∧ ∀ E', I xs.length E' → K.nx E'
theorem ds_for (hp : PassesOwn (model X.prog X.w) X.A X.env X.xe) (hc : X.calm = true) (hi : PI X tg iter (tDI Ta nm ri)) (hg : PG X tg g) (hgs : GS Ta nm gs g rg) (hb : PSs X body (tDS Ta nm rb))
    (hs : ∀ x, foldedSetIterable iter X.env x = pure x := by intro _; rfl) : PS X (.For tg iter body [] pos) (tDS Ta nm (rFor ri rg rb)) := PS.weak (ps_for hp hc hi hg hb hs) fun D σ H ⟨C, E, K, s, re, h⟩ => by
  refine ⟨C, E, _, s, h, fun xs J H1 g1 k1 walk ⟨I, i0, step, fin⟩ => ?_⟩
  have s1 := s.step g1 k1
  refine ⟨fun i m σ' H' => m = xs.length - i ∧ i ≤ xs.length ∧ ∃ E', St (loopC C H1 σ E) H' σ' E' ∧ I i E', ⟨xs.length, by simp, Nat.zero_le _, E, loop_in s1, i0⟩, ?_⟩
  rintro i m σ' H' ⟨rfl, hi', E', t, hI⟩
  have kp := loop_keep t
  by_cases hlt : i < xs.length
  · have hd : xs[i]? = some xs[i] := List.getElem?_eq_getElem hlt
    generalize xs[i] = d at hd
    obtain ⟨go, item⟩ := (walk H' i kp).2 d hd
    refine .inr ⟨go, fun σ2 H2 => ∃ E2, St (loopC C H1 σ E) H2 σ2 E2 ∧ I (i + 1) E2, fun σ2 H2 ⟨E2, t2, h2⟩ => ⟨xs.length - (i + 1), by omega, rfl, hlt, E2, t2, h2⟩, fun x H3 y => ?_⟩
    obtain ⟨sa, nt, it⟩ := item x H3 y
    have t3 := t.step (Same.go sa) (t.ok.same sa)
    refine hgs _ H3 σ' E' x d _ _ t3 (loop_item t sa it) (step i d E' hd hI) fun σ2 E2 t4 _ h4 => ?_
    refine ⟨loopC C H1 σ E, E2, { K with nx := I (i + 1), ct := I (i + 1), bk := K.nx }, t4, ⟨fun σ5 H5 E5 t5 h5 => ⟨E5, t5, h5⟩, fun v H5 d5 g5 k5 sd5 h5 => re.rt v H5 d5 (loop_go s1 g5) ⟨k5.tb, k5.dk⟩ sd5 h5, fun σ5 H5 E5 t5 h5 => re.nx _ _ _ (loop_out s1 t5) h5, fun σ5 H5 E5 t5 h5 => ⟨E5, t5, h5⟩⟩, h4⟩
  · have e : i = xs.length := by omega
    exact .inl ⟨(walk H' i kp).1 e, re.nx _ _ _ (loop_out s1 t) (fin E' (e ▸ hI))⟩
end
/-! ### comprehensions -/
section
variable {Ta : List Addr} {nm : Str} {C : DC Ta nm} {H : Hp} {σ : L2.St} {E : DEnv}
def NoOwn (E : DEnv) (vs : List Nat) : Prop := ∀ j ∈ vs, ∀ e, E[j]? = some e → e.own = false
theorem wipeE_get : ∀ {vs : List Nat} {i : Nat} {e : DV}, (wipeE E vs)[i]? = some e → (e = .no ∧ (i ∈ vs)) ∨ (i ∉ vs ∧ E[i]? = some e)
  | [], i, e, h => .inr ⟨List.not_mem_nil, h⟩
  | v :: vs, i, e, h => by
    rcases get_set (show ((wipeE E vs).set v .no)[i]? = some e from h) with ⟨rfl, rfl⟩ | ⟨ne, h⟩
    · exact .inl ⟨rfl, List.mem_cons_self⟩
    · rcases wipeE_get h with ⟨h1, h2⟩ | ⟨h1, h2⟩
      · exact .inl ⟨h1, List.mem_cons_of_mem _ h2⟩
      · exact .inr ⟨fun z => by
          rcases List.mem_cons.mp z with z | z
          · exact ne z.symm
          · exact h1 z, h2⟩
theorem wipe_get : ∀ {vs : List Nat} {i : Nat}, i ∉ vs → (wipe σ vs)[i]? = σ[i]?
  | [], i, _ => rfl
  | v :: vs, i, h => by
    show ((wipe σ vs).set v none)[i]? = _
    rw [List.getElem?_set_ne (fun z => h (by rw [z]; exact List.mem_cons_self)), wipe_get fun z => h (List.mem_cons_of_mem _ z)]
theorem wipe_has : ∀ {vs : List Nat} {i : Nat}, i < σ.length → ∃ o, (wipe σ vs)[i]? = some o := fun {vs i} h => ⟨_, List.getElem?_eq_getElem (by rw [wipe_length]; exact h)⟩
theorem wipeE_len : ∀ vs : List Nat, (wipeE E vs).length = E.length
  | [] => rfl
  | v :: vs => by
    show ((wipeE E vs).set v .no).length = _
    rw [List.length_set, wipeE_len vs]
theorem zof_wipe {vs : List Nat} (n : NoOwn E vs) {b : Addr} : Zof C (wipe σ vs) (wipeE E vs) b ↔ Zof C σ E b := by
  constructor
  · rintro (h | h | ⟨i, e, h1, h2, h3⟩)
    · exact .inl h
    · exact .inr (.inl h)
    · rcases wipeE_get h1 with ⟨rfl, _⟩ | ⟨hn, h1⟩
      · cases h2
      · rw [wipe_get hn] at h3
        exact .inr (.inr ⟨i, e, h1, h2, h3⟩)
  · rintro (h | h | ⟨i, e, h1, h2, h3⟩)
    · exact .inl h
    · exact .inr (.inl h)
    · have hn : i ∉ vs := fun z => by
        rw [n i z e h1] at h2
        cases h2
      refine .inr (.inr ⟨i, e, ?_, h2, by rw [wipe_get hn]; exact h3⟩)
      have : ∀ ws : List Nat, i ∉ ws → (wipeE E ws)[i]? = E[i]? := by
        intro ws
        induction ws with
        | nil => intro _; rfl
        | cons w ws ih =>
          intro hw
          show ((wipeE E ws).set w .no)[i]? = _
          rw [List.getElem?_set_ne (fun z => hw (by rw [z]; exact List.mem_cons_self)), ih fun z => hw (List.mem_cons_of_mem _ z)]
      rw [this vs hn]
      exact h1
theorem St.wiped (s : St C H σ E) {vs : List Nat} (n : NoOwn E vs) : St C H (wipe σ vs) (wipeE E vs) := by
  have less : Sm (msk (Zof C σ E) H) (msk (Zof C (wipe σ vs) (wipeE E vs)) H) := msk_less fun b hb => (zof_wipe n).mp hb
  refine ⟨s.wf, s.go, s.ok, by rw [wipe_length, wipeE_len]; exact s.len, fun i e he => ?_, fun i j e e' a ne h1 o1 h2 o2 h3 => ?_⟩
  · rcases wipeE_get he with ⟨rfl, _⟩ | ⟨hn, h⟩
    · have hi : i < (wipeE E vs).length := (List.getElem?_eq_some_iff.mp he).1
      rw [wipeE_len] at hi
      obtain ⟨o, ho⟩ := wipe_has (σ := σ) (vs := vs) (i := i) (by rw [s.len]; exact hi)
      exact ⟨o, ho, trivial⟩
    · obtain ⟨o, ho, z⟩ := s.slot i e h
      exact ⟨o, by rw [wipe_get hn]; exact ho, z.less less⟩
  · rcases wipeE_get h1 with ⟨rfl, _⟩ | ⟨n1, h1⟩
    · cases o1
    rcases wipeE_get h2 with ⟨rfl, _⟩ | ⟨n2, h2⟩
    · cases o2
    rw [wipe_get n1] at h3
    rw [wipe_get n2]
    exact s.dist i j e e' a ne h1 o1 h2 o2 h3
end
end Zk

set_option maxHeartbeats 1000000
/-! V8: comprehensions, all(..) and any(..), over data. -/
namespace Zk
open PySem PySem.Spec PyProof.Rows L2 GxR
section
variable {Ta : List Addr} {nm : Str} {C : DC Ta nm} {H H' : Hp} {σ : L2.St} {E : DEnv}
theorem wipe_wipe (vs : List Nat) : wipe (wipe σ vs) vs = wipe σ vs := by
  refine List.ext_getElem? fun i => ?_
  by_cases h : i ∈ vs
  · have none_at : ∀ (ρ : L2.St) (ws : List Nat), i ∈ ws → i < ρ.length → (wipe ρ ws)[i]? = some none := by
      intro ρ ws
      induction ws with
      | nil => intro h; exact absurd h List.not_mem_nil
      | cons w ws ih =>
        intro h hi
        show ((wipe ρ ws).set w none)[i]? = _
        by_cases e : w = i
        · subst e
          rw [List.getElem?_set_self (by rw [wipe_length]; exact hi)]
        · rw [List.getElem?_set_ne e]
          rcases List.mem_cons.mp h with q | q
          · exact absurd q.symm e
          · exact ih q hi
    by_cases hi : i < σ.length
    · rw [none_at _ _ h (by rw [wipe_length]; exact hi), none_at _ _ h hi]
    · rw [List.getElem?_eq_none (by rw [wipe_length, wipe_length]; omega), List.getElem?_eq_none (by rw [wipe_length]; omega)]
  · rw [wipe_get h]
theorem wipeE_get' {vs : List Nat} {i : Nat} (h : i ∉ vs) : (wipeE E vs)[i]? = E[i]? := by
  have : ∀ ws : List Nat, i ∉ ws → (wipeE E ws)[i]? = E[i]? := by
    intro ws
    induction ws with
    | nil => intro _; rfl
    | cons w ws ih =>
      intro hw
      show ((wipeE E ws).set w .no)[i]? = _
      rw [List.getElem?_set_ne (fun z => hw (by rw [z]; exact List.mem_cons_self)), ih fun z => hw (List.mem_cons_of_mem _ z)]
  exact this vs h
/-- the list that a comprehension makes, kept out of all values -/
noncomputable def lcC (C : DC Ta nm) (H : Hp) (σ : L2.St) (E : DEnv) (D : Addr) : DC Ta nm := ⟨C.dk, fun b => C.Z0 b ∨ b = D, msk (Own σ E) (ntb H)⟩
theorem zof_lc {D b : Addr} : Zof (lcC C H' σ E D) σ E b ↔ (Zof C σ E b ∨ b = D) := by
  constructor
  · rintro ((h | h) | h | h)
    · exact .inl (.inl h)
    · exact .inr h
    · exact .inl (.inr (.inl h))
    · exact .inl (.inr (.inr h))
  · rintro ((h | h | h) | h)
    · exact .inl (.inl h)
    · exact .inr (.inl h)
    · exact .inr (.inr h)
    · exact .inl (.inr h)
theorem lc_inO {D : Addr} {oD : HO} (nt : ∀ ps, oD ≠ .tbl ps) (s : St C H σ E) (g : Go C H H') (k : Ok C H') (hD : H D = none) (hD' : H' D = some oD) : St (lcC C H' σ E D) H' σ E := by
  have s' := s.step g k
  have nD : ∀ b, Zof C σ E b → b ≠ D := fun b z y => by
    obtain ⟨o, e, _⟩ := s.zin z
    rw [y, hD] at e
    cases e
  have he : ∀ b o, H' b = some o → (∀ ps, o ≠ .tbl ps) → ¬ Own σ E b → (lcC C H' σ E D).He b ≠ none := fun b o e n no => by
    have : msk (Own σ E) (ntb H') b = some o := msk_some.mpr ⟨no, ntb_of e n⟩
    show msk (Own σ E) (ntb H') b ≠ none
    rw [this]
    exact fun z => nomatch z
  have sm : Sm (msk (Zof C σ E) H) (msk (Zof (lcC C H' σ E D) σ E) H') := fun b o e n => by
    obtain ⟨z, e⟩ := msk_some.mp e
    refine msk_some.mpr ⟨fun y => ?_, g b o e n fun k => z (Zof.dk k)⟩
    rcases zof_lc.mp y with y | y
    · exact z y
    · rw [y, hD] at e
      cases e
  refine ⟨⟨fun b kd => ?_, fun b z => ?_, fun b ps e => (ntb_to (msk_some.mp e).2).2 ps rfl⟩, fun b o e _ _ => (ntb_to (msk_some.mp e).2).1, ⟨k.tb, k.dk⟩, s.len, fun i e he' => ?_, s.dist⟩
  · obtain ⟨o, e, n⟩ := k.at (b := b) kd
    exact he b o e n fun o' => s.wf.dk b kd (own_none s o').1
  · rcases z with z | rfl
    · obtain ⟨o, e, n⟩ := s'.tracked (s.wf.zin b z)
      exact he b o e n fun o' => (own_none s o').2 z
    · exact he b _ hD' nt fun o' => nD b (.inr (.inr o')) rfl
  · obtain ⟨o, ho, z⟩ := s.slot i e he'
    refine ⟨o, ho, ?_⟩
    cases e with
    | d x => obtain ⟨v, e, sd⟩ := z; exact ⟨v, e, sd.sm sm⟩
    | deck => exact z
    | no => trivial
    | lst xs =>
      obtain ⟨a, ws, rfl, h, sd, n0, n1⟩ := z
      have ow : Own σ E a := ⟨i, _, he', rfl, ho⟩
      refine ⟨a, ws, rfl, g a _ h (fun _ z => nomatch z) (fun k => s.wf.dk a k n0), sd.sm sm, ?_, fun z => z.elim n1 (nD a (.inr (.inr ow)))⟩
      show msk (Own σ E) (ntb H') a = none
      unfold msk
      exact if_pos ow
    | dic xs =>
      obtain ⟨a, ws, rfl, h, sd, n0, n1⟩ := z
      have ow : Own σ E a := ⟨i, _, he', rfl, ho⟩
      refine ⟨a, ws, rfl, g a _ h (fun _ z => nomatch z) (fun k => s.wf.dk a k n0), SdKs.sm sm sd, ?_, fun z => z.elim n1 (nD a (.inr (.inr ow)))⟩
      show msk (Own σ E) (ntb H') a = none
      unfold msk
      exact if_pos ow
    | dct xs =>
      obtain ⟨a, ws, rfl, h, sd, n0, n1⟩ := z
      have ow : Own σ E a := ⟨i, _, he', rfl, ho⟩
      refine ⟨a, ws, rfl, g a _ h (fun _ z => nomatch z) (fun k => s.wf.dk a k n0), SdKs.sm sm sd, ?_, fun z => z.elim n1 (nD a (.inr (.inr ow)))⟩
      show msk (Own σ E) (ntb H') a = none
      unfold msk
      exact if_pos ow
theorem lc_in {D : Addr} {vs : List V} (s : St C H σ E) (g : Go C H H') (k : Ok C H') (hD : H D = none) (hD' : H' D = some (.lst vs)) : St (lcC C H' σ E D) H' σ E := lc_inO (oD := .lst vs) (fun _ z => nomatch z) s g k hD hD'
theorem go_keep (s : St C H σ E) (g : Go C H H') : Keep (Zof C σ E) H H' := fun b o e n z => g b o e n fun k => z (Zof.dk k)
end
section
variable {X : Cx} {Ta : List Addr} {nm : Str} {elt tg iter e : Expr} {ifs : List Expr} {scope : Scope} {own : List (Str × Nat)} {pos p gpos : Pos} {ri : DRI} {g : TG} {rg : DRG} {gs : List Nat} {rt : DRT} {re : DR}
theorem PTsx.weak {t t' : TT} (h : PTs X ifs t) (k : ∀ σ H Q, t' σ H Q → t σ H Q) : PTs X ifs t' := ⟨fun pins s σ H Q I w => h.run pins s σ H Q I (k σ H Q w)⟩
@[simp] def rtYes : DRT := fun _ q => q true
theorem dts_nil : PTs X [] (tDT Ta nm rtYes) := PTsx.weak pts_nil fun σ H Q ⟨C, E, q, s, hr, k⟩ => k true H Go.refl s.ok hr
theorem dts_one (h : L2.PT X e (tDT Ta nm rt)) : PTs X [e] (tDT Ta nm rt) := pts_one h
def rLc (vs : List Nat) (ri : DRI) (rg : DRG) (rt : DRT) (re : DR) : DR := fun E q => NoOwn E vs ∧ ri E fun xs => ∃ I : Nat → List PyData → Prop, I 0 [] ∧
  (∀ i d acc, xs[i]? = some d → I i acc → rg d (wipeE E vs) fun E2 => rt E2 fun b => if b = true then re E2 fun y => acc.length < sizeLine ∧ I (i + 1) (acc ++ [y]) else I (i + 1) acc) ∧ ∀ acc, I xs.length acc → q (.list acc)
theorem lc_turns {vs : List Nat} (hgs : GS Ta nm gs g rg) (hsub : ∀ j ∈ gs, j ∈ vs) {C : DC Ta nm} {E : DEnv} {q : PyData → Prop} {σ : L2.St} {H : Hp} {Q : VK} (s : St C H σ E) (no : NoOwn E vs) (k : ∀ d v H', Go C H H' → Ok C H' → Sd (msk (Zof C σ E) H') v d → q d → Q v H') (xs : List PyData) (J : It) (H1 : Hp) (g1 : Go C H H1) (k1 : Ok C H1) (walk : Walks (Zof C σ E) H1 J xs)
    (h : ∃ I : Nat → List PyData → Prop, I 0 [] ∧
      (∀ i d acc, xs[i]? = some d → I i acc → rg d (wipeE E vs) fun E2 => rt E2 fun b => if b = true then re E2 fun y => acc.length < sizeLine ∧ I (i + 1) (acc ++ [y]) else I (i + 1) acc) ∧ ∀ acc, I xs.length acc → q (.list acc)) :
    tLc (fun _ _ R => R J H1) g (tDT Ta nm rt) (tD Ta nm re) vs σ H Q := by
    obtain ⟨I, i0, step, fin⟩ := h
    intro D hD
    have s1 := s.step g1 k1
    have nZ : ¬ Zof C σ E D := s1.new hD
    let Z' : Addr → Prop := fun b => Zof C σ E b ∨ b = D
    let Inv' : Nat → Hp → Prop := fun i H' => ∃ acc vacc, H' D = some (.lst vacc) ∧ SdL (msk Z' H') vacc acc ∧ I i acc ∧ Go C H1 H' ∧ Ok C H'
    refine ⟨fun i m H' => m = xs.length - i ∧ i ≤ xs.length ∧ Inv' i H', ⟨xs.length, by simp, Nat.zero_le _, [], [], upd_same, .nil, i0, Same.go (same_new hD _), k1.same (same_new hD _)⟩, ?_⟩
    rintro i m H' ⟨rfl, hi, acc, vacc, eD, sacc, hI, g', k'⟩
    have kp := go_keep s1 g'
    by_cases hlt : i < xs.length
    · have hd : xs[i]? = some xs[i] := List.getElem?_eq_getElem hlt
      generalize xs[i] = d at hd
      obtain ⟨go, item⟩ := (walk H' i kp).2 d hd
      refine .inr ⟨go, Inv' (i + 1), fun H2 h2 => ⟨xs.length - (i + 1), by omega, rfl, hlt, h2⟩, fun x H3 y => ?_⟩
      obtain ⟨sa, nt, it⟩ := item x H3 y
      have t0 := lc_in s1 g' k' hD eD
      have t1 := t0.wiped no
      have t3 := t1.step (Same.go sa) (t1.ok.same sa)
      have e3 : H3 D = some (.lst vacc) := sa _ _ eD
      have sdx : Sd (msk (Zof (lcC C H' σ E D) (wipe σ vs) (wipeE E vs)) H3) x d := it _ (fun b o e n => by
          obtain ⟨z, e⟩ := msk_some.mp e
          refine msk_some.mpr ⟨fun y => ?_, sa _ _ (g' b o e n fun k => z (Zof.dk k))⟩
          rcases zof_lc.mp ((zof_wipe no).mp y) with y | y
          · exact z y
          · rw [y, hD] at e
            cases e) fun b o e1 e2 => msk_some.mpr ⟨t1.new e1, e2⟩
      have goC : ∀ {A B : Hp}, Go (lcC C H' σ E D) A B → Go C A B := fun h => h
      have off : ∀ {A B : Hp}, Go C A B → A D = some (.lst vacc) → B D = some (.lst vacc) := fun h e => h D _ e (fun _ z => nomatch z) fun k => nZ (Zof.dk k)
      have keepS : ∀ {B : Hp}, Go C H' B → SdL (msk Z' B) vacc acc := fun {B} h => sacc.sm' (h.msk fun b k => .inl (Zof.dk k))
      refine hgs _ H3 _ _ x d _ _ t3 sdx (step i d acc hd hI) fun σ2 E2 t4 hw h4 => ?_
      obtain ⟨w1, w2⟩ := hw.2 vs hsub
      refine ⟨w1.trans (wipe_wipe vs), _, E2, _, t4, h4, fun b H4 g4 k4 hq => ?_⟩
      have gA : Go C H' H4 := (Same.go sa).trans (goC g4)
      cases b with
      | false => exact ⟨acc, vacc, off (goC g4) e3, keepS gA, hq, g'.trans gA, ⟨k4.tb, k4.dk⟩⟩
      | true =>
        refine ⟨_, E2, _, t4.step g4 k4, hq, fun y v H5 g5 k5 sd ⟨hl, hI'⟩ => ?_⟩
        have e5 := off (goC g5) (off (goC g4) e3)
        have gB : Go C H' H5 := gA.trans (goC g5)
        have less : ∀ b, Z' b → Zof (lcC C H' σ E D) σ2 E2 b := fun b z => by
          rcases z with (z | z | ⟨j, u, h1, h2, h3⟩) | z
          · exact .inl (.inl z)
          · exact .inr (.inl z)
          · have hj : j ∉ vs := fun m => by
              rw [no j m u h1] at h2
              cases h2
            refine .inr (.inr ⟨j, u, ?_, h2, ?_⟩)
            · have := congrArg (fun (l : DEnv) => l[j]?) w2
              rw [wipeE_get' hj, wipeE_get' hj, wipeE_get' hj] at this
              rw [this]
              exact h1
            · have := congrArg (fun (l : L2.St) => l[j]?) w1
              rw [wipe_get hj, wipe_get hj, wipe_get hj] at this
              rw [this]
              exact h3
          · exact .inl (.inr z)
        have nD : Z' D := .inr rfl
        have mskD : ∀ o, Sm (msk Z' H5) (msk Z' (upd H5 D o)) := fun o b u e _ => by
          obtain ⟨z, e⟩ := msk_some.mp e
          exact msk_some.mpr ⟨z, (upd_ne (fun y : b = D => z (by rw [y]; exact nD))).trans e⟩
        refine ⟨vacc, e5, by rw [sacc.len]; exact hl, acc ++ [y], vacc ++ [v], upd_same, ((keepS gB).app (.cons (sd.sm (msk_less less)) .nil)).sm' (mskD _), hI', ?_, ?_⟩
        · exact fun b o e n d => (upd_ne (fun y : b = D => by rw [y, hD] at e; cases e)).trans ((g'.trans gB) b o e n d)
        · refine ⟨fun P hP => ?_, fun c hc => ?_⟩
          · obtain ⟨ps, e, t⟩ := k5.tb P hP
            exact ⟨ps, (upd_ne (fun y : P = D => by rw [y, e5] at e; cases e)).trans e, t⟩
          · obtain ⟨l, m, dd, a1, a2, r⟩ := k5.dk c hc
            exact ⟨l, m, dd, (upd_ne (fun y : c.1 = D => nZ (Zof.dk ⟨c, hc, .inl y.symm⟩))).trans a1, (upd_ne (fun y : c.2 = D => nZ (Zof.dk ⟨c, hc, .inr y.symm⟩))).trans a2, r⟩
    · have e : i = xs.length := by omega
      exact .inl ⟨(walk H' i kp).1 e, k (.list acc) (.ref D) H' (g1.trans g') k' (.lst (msk_some.mpr ⟨nZ, eD⟩) (sacc.sm' (msk_less fun b z => .inl z))) (fin acc (e ▸ hI))⟩
theorem lc_run {vs : List Nat} (hgs : GS Ta nm gs g rg) (hsub : ∀ j ∈ gs, j ∈ vs) : ∀ σ H Q, tD Ta nm (rLc vs ri rg rt re) σ H Q → tLc (tDI Ta nm ri) g (tDT Ta nm rt) (tD Ta nm re) vs σ H Q := fun σ H Q ⟨C, E, q, s, ⟨no, hr⟩, k⟩ =>
  ⟨C, E, _, s, hr, fun xs J H1 g1 k1 walk h => lc_turns hgs hsub s no k xs J H1 g1 k1 walk h⟩
theorem dx_lc (hc : X.calm = true) (hN : X.N.Nodup) (hi : PI X tg iter (tDI Ta nm ri)) (ok : BlkOk X.N X.env.scope scope own)
    (hg : ∀ (s : Shared) (H : Hp) (C : Addr) (cl : List (Str × Addr)) (fp : List Addr), PG (X.blk s H scope (compEnvC scope cl C X.env) fp) tg g) (hgs : GS Ta nm gs g rg) (hsub : ∀ j ∈ gs, j ∈ own.map (·.2)) (ht : ∀ (s : Shared) (H : Hp) (C : Addr) (cl : List (Str × Addr)) (fp : List Addr), PTs (X.blk s H scope (compEnvC scope cl C X.env) fp) ifs (tDT Ta nm rt))
    (he : ∀ (s : Shared) (H : Hp) (C : Addr) (cl : List (Str × Addr)) (fp : List Addr), PE (X.blk s H scope (compEnvC scope cl C X.env) fp) elt (tD Ta nm re)) (hs : ∀ x, foldedSetIterable iter X.env x = pure x := by intro _; rfl) :
    PE X (.ListComp elt [⟨tg, iter, ifs, 0⟩] scope pos) (tD Ta nm (rLc (own.map (·.2)) ri rg rt re)) := PE.weak (pe_lc hc hN hi ok hg ht he hs) (lc_run hgs hsub)
/-! ### all, any -/
def rAll (kp : Bool) (vs : List Nat) (ri : DRI) (rg : DRG) (rt : DRT) (re : DR) : DR := fun E q => NoOwn E vs ∧ ri E fun xs => ∃ I : Nat → Prop, I 0 ∧
  (∀ i d, xs[i]? = some d → I i → rg d (wipeE E vs) fun E2 => rt E2 fun b => if b = true then re E2 fun y => ∃ b', y = .bool b' ∧ if b' = kp then I (i + 1) else q (.bool b') else I (i + 1)) ∧ (I xs.length → q (.bool kp))
theorem gx_run {kp : Bool} {P : Addr} {vs : List Nat} (hT : P ∈ Ta) (hgs : GS Ta nm gs g rg) (hsub : ∀ j ∈ gs, j ∈ vs) : ∀ σ H Q, tD Ta nm (rAll kp vs ri rg rt re) σ H Q → tGx kp P (tDI Ta nm ri) g (tDT Ta nm rt) (tD Ta nm re) vs σ H Q := fun σ H Q ⟨C, E, q, s, ⟨no, hr⟩, k⟩ =>
  ⟨C, E, _, s, hr, fun xs J H1 g1 k1 walk ⟨I, i0, step, fin⟩ => ⟨k1.tb P hT, fun H2 tab => by
    have s1 := s.step g1 k1
    have sm2 := Tabbed.sm tab (k1.tb P hT)
    have k2 := k1.sm sm2 (Tabbed.tb tab k1.tb)
    refine ⟨fun i m H' => m = xs.length - i ∧ i ≤ xs.length ∧ I i ∧ Go C H1 H' ∧ Ok C H', ⟨xs.length, by simp, Nat.zero_le _, i0, Sm.go sm2, k2⟩, ?_⟩
    rintro i m H' ⟨rfl, hi, hI, g', k'⟩
    have kp' := go_keep s1 g'
    have t0 := s1.step g' k'
    by_cases hlt : i < xs.length
    · have hd : xs[i]? = some xs[i] := List.getElem?_eq_getElem hlt
      generalize xs[i] = d at hd
      obtain ⟨go, item⟩ := (walk H' i kp').2 d hd
      refine .inr ⟨go, fun H' => I (i + 1) ∧ Go C H1 H' ∧ Ok C H', fun H2 ⟨a, b, c⟩ => ⟨xs.length - (i + 1), by omega, rfl, hlt, a, b, c⟩, fun x H3 y => ?_⟩
      obtain ⟨sa, nt, it⟩ := item x H3 y
      have t1 := t0.wiped no
      have t3 := t1.step (Same.go sa) (t1.ok.same sa)
      have sdx : Sd (msk (Zof C (wipe σ vs) (wipeE E vs)) H3) x d := it _ (fun b o e n => by
          obtain ⟨z, e⟩ := msk_some.mp e
          exact msk_some.mpr ⟨fun y => z ((zof_wipe no).mp y), sa _ _ (g' b o e n fun k => z (Zof.dk k))⟩) fun b o e1 e2 => msk_some.mpr ⟨t1.new e1, e2⟩
      refine hgs _ H3 _ _ x d _ _ t3 sdx (step i d hd hI) fun σ2 E2 t4 hw h4 => ?_
      obtain ⟨w1, w2⟩ := hw.2 vs hsub
      refine ⟨w1.trans (wipe_wipe vs), C, E2, _, t4, h4, fun b H4 g4 k4 hq => ?_⟩
      have gA : Go C H1 H4 := (g'.trans (Same.go sa)).trans g4
      cases b with
      | false => exact ⟨hq, gA, k4⟩
      | true =>
        refine ⟨C, E2, _, t4.step g4 k4, hq, fun y v H5 g5 k5 sd ⟨b', ey, hq'⟩ => ?_⟩
        subst ey
        refine ⟨b', sd_bool sd, ?_⟩
        by_cases eb : b' = kp
        · rw [if_pos eb] at hq'
          exact .inl ⟨eb, hq', gA.trans g5, k5⟩
        · rw [if_neg eb] at hq'
          exact .inr ⟨eb, k _ _ H5 ((g1.trans gA).trans g5) k5 (.bl _) hq'⟩
    · have e : i = xs.length := by omega
      exact .inl ⟨(walk H' i kp').1 e, k _ _ H' (g1.trans g') k' (.bl _) (fin (e ▸ hI))⟩⟩⟩
end
end Zk

set_option maxHeartbeats 4000000
/-! E0: own error classes over an own class over Exception: made as values (tracked in the abstract heap), their fields read, asked by isinstance. -/
namespace Zk
open PySem PySem.Spec PyProof.Rows L2
open PySem.W (findIn subIn typeIn keepIn excTail)

/-- the class at C: own classes bm' and then Exception's line behind it; its objects have a dict -/
structure OwnE (K : PySem.W.Frag) (C : Addr) : Prop where
  obj : ∃ nm q N bs bm sn sub ab col dd k0 k1 k2 k3 k5, K.lookup C = some (excClassObj nm q C N bs bm true sn sub ab col dd k0 k1 k2 k3 k5 "Exception.__new__") ∧ excTail PySem.ESX.exTail bm = true
  sa : findIn K (.ref C) "__setattr__" = some (some (.builtin "object.__setattr__"))
  ga : findIn K (.ref C) "__getattribute__" = some (some (.builtin "BaseException.__getattribute__"))
  gg : findIn K (.ref C) "__getattr__" = some none
  ca : findIn K (.ref C) "__class__" = some (some (.builtin "object.__class__"))
  exC : subIn K (.ref C) (.type "BaseException") = some true
  tyC : typeIn K (.ref C) = some (.type "type")
  kC : keepIn K (.ref C) = true
/-- what isinstance asks besides, of no one class -/
structure ClsG (K : PySem.W.Frag) : Prop where
  sp : PySem.W.specialIn K (.builtin "object.__class__") "__get__" = some (some (.builtin "getset_descriptor.__get__"))
  tk : PySem.W.takesIn K (.builtin "object.__class__") = some true
section
variable {K : PySem.W.Frag} {C : Addr}
theorem OwnE.cd (T : OwnE K C) : ∃ cd, PySem.W.clsIn K C = some cd ∧ cd.hasDict = true ∧ (∃ bm, cd.mro = .ref C :: bm ∧ excTail PySem.ESX.exTail bm = true) := by
  obtain ⟨nm, q, N, bs, bm, sn, sub, ab, col, dd, k0, k1, k2, k3, k5, h, hb⟩ := T.obj
  refine ⟨{ name := nm, bases := bs, mro := .ref C :: bm, ns := N, qualname := q, hasDict := true, slotNames := sn, subclasses := sub, abstract := ab, collection := col, hasDel := false }, ?_, rfl, bm, rfl, hb⟩
  unfold PySem.W.clsIn
  rw [h]
theorem OwnE.isCls (T : OwnE K C) : (PySem.W.clsIn K C).isSome = true := by
  obtain ⟨cd, h, _⟩ := T.cd
  rw [h]
  rfl
theorem OwnE.mro (T : OwnE K C) {n : String} (hn : (PySem.ESX.exTail).contains (.type n) = true) : PySem.W.mroIn K C (.type n) = some true := by
  obtain ⟨cd, h, _, bm, hm, hb⟩ := T.cd
  unfold PySem.W.mroIn
  rw [h, Option.bind_some, hm, if_neg (show ¬ (List.isEmpty (Value.ref C :: bm) = true) from Bool.false_ne_true), List.contains_cons, PySem.W.excTail_contains n bm hb, hn, Bool.or_true]
theorem OwnE.pass (T : OwnE K C) {cd : ClassData} (h : PySem.W.clsIn K C = some cd) (self : Value) : refuseLoop self "__setattr__" cd.mro = pure () := by
  obtain ⟨cd', h', _, bm, hm, hb⟩ := T.cd
  rw [h] at h'
  cases h'
  exact PySem.W.excTail_pass self (F.store_Exception.passes self) _ (by rw [hm]; exact hb)
end

/-! ### the first store into such an object: its dict is laid -/
section
open Builtin Builtin.ObjectAttr
variable {prog : Program} {w : World} {A : Around} {R : Result → Shared → Prop} {h0 : Heap} {g : Array GenState} {d : Drawn} {t : Nat} {os : OsState} {K : PySem.W.Frag} {x C : Addr} {name : Str}
theorem first_store (T : OwnE K C) {tk : Tok} {v : Value} {flds : Array Value} (X : K.In h0) (hx : h0.get? x = some { cls := .ref C, data := .fields flds }) (ha : findIn K (.ref C) name = some none)
    (hq : ∀ h1 tk' dx, (∀ b o, b ≠ x → h0.get? b = some o → h1.get? b = some o) → h0.objs.size ≤ dx → dx ≠ x → h1.get? x = some { cls := .ref C, dict := some dx, data := .fields flds } →
      h1.Ns1 dx (fun y => if y = name then some v else none) → R (.ok (.ret .none)) ⟨h1, g, d, tk', os⟩) :
    codeAny (model prog w) A (.call (.builtin "object.__setattr__") ⟨[.ref x, .str name tk, v], []⟩) R ⟨h0, g, d, t, os⟩ := by
  obtain ⟨cd, hcd, hdict, _⟩ := T.cd
  have at_x : PySem.W.InstAt h0 x { cls := .ref C, data := .fields flds } C none := ⟨hx, rfl, rfl, trivial⟩
  have apart : x ≠ h0.objs.size := Nat.ne_of_lt (Heap.lt_size hx)
  have S := F.store_object
  have isObj : PySem.W.Looks (model prog w) h0 (isInstance (.ref x) (.type "object")) true := at_x.type.andThen (PySem.W.looks_mroIn X (T.mro (by decide +kernel)))
  have line : PySem.W.Looks (model prog w) h0 (mroOf (.ref C)) cd.mro := (PySem.W.looks_clsIn X hcd).andThen .now
  have data : PySem.W.Looks (model prog w) h0 (classData C) cd := PySem.W.looks_clsIn X hcd
  have free : PySem.W.Looks (model prog w) h0 (storeTaker? none) none := .now
  refine codeAny_call_builtin S.slot.plain S.entry ?_
  refine @PySem.W.check_slot (model prog w) _ _ ⟨h0, g, d, t, os⟩ "object.__setattr__" "object" "__setattr__" (.ref x) [.str name tk, v] [] _ S.kind S.split isObj (S.args (.ref x) (.str name tk) v) ?_
  rw [PySem.W.osa_eq, refuse_eq]
  refine wpAny_bind (wpAny_bind (at_x.type.at (wpAny_bind (line.at ?_))))
  rw [T.pass hcd (.ref x)]
  refine wpAny_pure (wpAny_bind (at_x.type.at (wpAny_bind ?_)))
  refine (PySem.W.looks_findIn X ha).at (wpAny_bind (free.at ?_))
  show wpAny _ _ (storeInOwnDict (.ref x) (.ref C) (.str name tk) name v false) _ _ _
  obtain ⟨_, _, _, _, _, hd, _, _, _, _, _⟩ := cd
  cases (show hd = true from hdict)
  unfold storeInOwnDict ownDictForStores
  repeat (first | with_reducible refine HandSPX.store_in_new ?_ ?_ | with_reducible refine wpAny_loadPart_at hx ?_ | with_reducible refine data.at ?_ | wp_step)
  · exact ⟨_, #[], _, (Heap.get?_update_ne _ _ _ _ apart.symm).trans (Heap.get?_push_at rfl rfl), rfl, fun _ he => absurd he (by simp), fun _ => rfl⟩
  · intro h1 tk' hn hs
    have old : ∀ {b o}, h0.get? b = some o → (h0.push { cls := .type "dict", data := .dict #[] }).get? b = some o := fun e => Heap.get?_push_of_some _ e
    exact hq h1 tk' h0.objs.size (fun b o hb ho => (hs.2 b (Nat.ne_of_lt (Heap.lt_size ho))).trans ((Heap.get?_update_ne _ _ _ _ hb).trans (old ho))) (Nat.le_refl _) apart.symm
      ((hs.2 x apart).trans (Heap.get?_update_self _ (old hx) rfl)) hn
end

section
variable {X : Cx} {pins : List (Addr × Obj)} {σ : List (Option V)} {H : Hp} {s : Shared} {a C : Addr} {f : Str} {y : V} {u : Value}
/-- self.f = y, the first field of a new error -/
theorem est_new (T : OwnE X.K C) (I : Inv X pins σ H s) (e : H a = some (exo a C none)) (hno : findIn X.K (.ref C) f = some none) (ry : RelV y u) {Q : Unit → Shared → Prop} {E : Value → Shared → Prop} {A : Around}
    (h : ∀ dx s', H dx = none → dx ≠ a → Inv X pins σ (upd (upd H dx (exd dx [(f, y)])) a (exo a C (some dx))) s' → Q () s') : wpAny (model X.prog X.w) A (setAttr (.ref a) f u) Q E s := by
  obtain ⟨t1, ho⟩ := exo_at I.hok e
  obtain ⟨hp, g, d, t, os⟩ := s
  refine PySem.W.set_plain I.kIn (od := none) ⟨ho, rfl, rfl, trivial⟩ T.sa (first_store T I.kIn ho hno ?_)
  intro h1 tk' dx keep big apart hx hn
  have fresh : H dx = none := I.hok.fresh big
  have low : ∀ {b : Addr} {o : Obj}, hp.get? b = some o → b ≠ dx := fun q => Nat.ne_of_lt (Nat.lt_of_lt_of_le (Heap.lt_size q) big)
  have nota : ∀ {b : Addr}, H b = none → b ≠ a := fun n z => by
    rw [z, e] at n
    cases n
  have two : ∀ {b : Addr} {o : HO}, o ≠ exo a C none → H b = some o → upd (upd H dx (exd dx [(f, y)])) a (exo a C (some dx)) b = some o := @fun b o n q => by
    have nb : b ≠ a := fun z => by
      rw [z, e] at q
      exact n (Option.some.inj q).symm
    rw [upd_ne nb, upd_ne (ne_of_none q fresh)]
    exact q
  have U : Un X.fs [] H (upd (upd H dx (exd dx [(f, y)])) a (exo a C (some dx))) hp h1 := by
    constructor
    · exact fun b o q n _ _ => keep b o (nota n) q
    · exact fun b o q n _ _ => ⟨o.slots, keep b o (nota n) q⟩
    · exact fun b o q n _ => by rw [upd_ne (nota n), upd_ne (low q)] <;> exact n
    · intro b o q _
      by_cases hb : b = a
      · exact ⟨_, hb ▸ hx⟩
      · exact ⟨o, keep b o hb q⟩
    · exact fun b xs q => two exo_tup.symm q
    · exact fun b o v q => two exo_frz.symm q
    · exact fun b ps q => ⟨#[], by rw [two exo_tbl.symm q]; simp⟩
  refine h dx _ fresh apart (I.un (t' := tk') U fun b o q => ?_)
  by_cases hb : b = a
  · subst hb
    rw [upd_same] at q
    cases q
    exact exo_ok hx
  rw [upd_ne hb] at q
  by_cases hd : b = dx
  · subst hd
    rw [upd_same] at q
    cases q
    exact exd_ok hn (relO_put (fs := []) ry fun _ => True.intro)
  rw [upd_ne hd] at q
  refine (I.hok b o q).stay (fun c v hc z => keep c v ?_ z) (fun c hc => two exo_own.symm hc) fun c xs hc => two exo_tup.symm hc
  rcases hc with hc | hc
  · exact hc ▸ hb
  · exact fun z => by
      rw [z, e] at hc
      exact exo_own (Option.some.inj hc)
/-- Exception.__init__ of a new error -/
theorem einit (T : OwnE X.K C) (I : Inv X pins σ H s) (e : H a = some (exo a C none)) {us : List Value} (hl : us.length ≤ sizeLine) {Q : Value → Shared → Prop} (h : ∀ s', Inv X pins σ H s' → Q .none s') :
    wpAny (model X.prog X.w) X.A (call (.builtin "Exception.__init__") (.ref a :: us)) Q X.xe s := by
  obtain ⟨_, _, _, _, bm, _, _, _, _, _, _, _, _, _, _, hC, hbm⟩ := T.obj
  obtain ⟨t1, ho⟩ := exo_at I.hok e
  obtain ⟨hp, g, d, t, os⟩ := s
  refine wpAny_call (HandSPX.init_base F.excBase_Exception (fun n => PySem.W.excTail_contains n bm hbm) (I.kIn _ _ hC) ho hl fun h1 t2 keep hx => ?_)
  have J := I.write (t' := t) (x := a) (e := a) (o := exo a C none) (by rw [e]; exact True.intro) (.inl rfl) keep ⟨_, hx⟩ (exo_ok hx)
  have same : upd H a (exo a C none) = H := funext fun b => by
    by_cases hb : b = a
    · rw [hb, upd_same, e]
    · exact upd_ne hb
  exact h _ (same ▸ J)
end

/-! ### the rules -/
/-- Base.__init__(self, ..), Base an own class at B over Exception, on a new error -/
def tBase (K : PySem.W.Frag) (ta : TA) : TE := fun σ H Q => ta σ H fun vs H1 => ∃ (a C : Addr) (ws : List V), vs = .ref a :: ws ∧ ws.length ≤ 1000 ∧ OwnE K C ∧ H1 a = some (exo a C none) ∧ Q .non H1
/-- self.f = e on a new error -/
def tFirst (K : PySem.W.Frag) (f : Str) (to te : TE) : TS := fun D σ H => te σ H fun y H1 => to σ H1 fun x H2 => ∃ a C : Addr, x = .ref a ∧ OwnE K C ∧ findIn K (.ref C) f = some none ∧ H2 a = some (exo a C none) ∧
  ∀ dx, H2 dx = none → dx ≠ a → D.nx σ (upd (upd H2 dx (exd dx [(f, y)])) a (exo a C (some dx)))
/-- C(e, ..) as a value, C's own __init__ keeping sp -/
def tMkE (C : Addr) (sp : Sp) (gV : List V → List V → List V) (ta tk : TA) : TE := fun σ H Q => ta σ H fun vs H1 => tk σ H1 fun zs H2 => vs.length + zs.length ≤ 1000 ∧
  ∀ a, H2 a = none → sp (.ref a :: gV vs zs) (upd H2 a (exo a C none)) (fun v H3 => v = .non ∧ Q (.ref a) H3) E0
section
variable {X : Cx} {o e : Expr} {es : List Expr} {to te : TE} {ta : TA} {f : Str} {p p' p1 p2 pos : Pos} {B C : Addr} {x : Str}
theorem pe_base {pl : Sem Bool} (hg : Gl X x) (hm : X.mg x = some (.ref B)) (hs : PySem.W.specialIn X.K (.ref B) "__getattribute__" = some (some (.builtin "type.__getattribute__")))
    (hr : PySem.W.readsIn X.K B (.type "type") = true) (hv : PySem.W.findCls X.K (.ref B) (.type "type") "__init__" = some (.val (.builtin "Exception.__init__"))) (ha : PA X (e :: es) ta)
    (hc : eval (.Call (.Attribute (.Name x p1) "__init__" p2) (e :: es) [] pos) X.env = (do
      let ov ← eval (.Name x p1) X.env
      standAt p2.atName
      let (f, first) ← holding [ov] (getMethod ov "__init__" pl)
      callWith pos f first (backTo pos (starEach (e :: es) X.env)) (backToKw pos (keywordEach [] X.env))) := by rfl)
    (hd : (x == ("__debug__" : Str)) = false := by decide) (he : starEach (e :: es) X.env = (false, eval e X.env) :: starEach es X.env := by rfl) (hpl : (backTo pos (starEach es X.env)).any (·.1) = false := by rfl) :
    PE X (.Call (.Attribute (.Name x p1) "__init__" p2) (e :: es) [] pos) (tBase X.K ta) := by
  refine ⟨fun pins s σ H Q I h => PySem.W.methodCall_KW (ld_glob I hg hm ?_ hd) hc⟩
  refine PySem.W.method_cls I.kIn hs (PySem.W.cls_value I.kIn hr hv (by decide +kernel) ?_)
  show wpAny _ _ (callWith pos (Value.builtin "Exception.__init__") [] (backTo pos (starEach (e :: es) X.env)) []) _ _ _
  refine PyProof.Rows.callWith_method1 (thn (ha.run pos pins _ σ H _ (I.tok _) h) ?_) he hpl
  rintro us s1 ⟨vs, H1, I1, r1, a, C, ws, rfl, hl, T, ea, q⟩
  cases r1 with
  | @cons _ u0 _ ur ra rw' =>
    obtain rfl : u0 = Value.ref a := ra
    refine einit T I1 ea ?_ fun s' J => ⟨.non, H1, J, rfl, q⟩
    have := Paired.length rw'
    rw [sizeLine_eq]
    omega
theorem ps_first (ho : PE X o to) (he : PE X e te) (hs : swapsWith e (some (.Attribute o f p')) pos.line X.env = pure false := by rfl) : PS X (.Assign [.Attribute o f p'] e pos) (tFirst X.K f to te) := by
  refine ⟨fun pins s σ H D I h => plainObj_wpAny_Assign_Attribute (thn (he.run pins s σ H _ I h) ?_) hs⟩
  rintro v s1 ⟨y, H1, I1, r1, q1⟩
  refine thn (ho.run pins s1 σ H1 _ I1 q1) ?_
  rintro u s2 ⟨x, H2, I2, r2, a, C, rfl, T, hno, ea, q⟩
  obtain rfl : u = Value.ref a := r2
  exact est_new T I2 ea hno r1 fun dx s' n ne J => ⟨σ, _, J, q dx n ne⟩
end
end Zk

set_option maxHeartbeats 4000000
/-! E1: making such an error, its arguments by position or by name. -/
namespace Zk
open PySem L2
section
variable {M : Model} {A : Around} {E : Value → Shared → Prop} {h : Heap} {g : Array GenState} {d : Drawn} {t : Nat} {os : OsState}
variable {nm q : Str} {C N : Addr} {bs bm bmB : List Value} {hdct : Bool} {sn : List Str} {sub : List Value} {ab : Bool} {col : Option Bool} {dd : Option Addr} {k0 k1 k2 k3 k5 : Option Value} {B newId initId : String}
/-- __new__ may be called with any arguments, named ones too -/
theorem new_asked (F : ExcBaseFacts B newId initId bmB) (hT : ∀ X : String, bm.contains (.type X) = bmB.contains (.type X)) {us : List Value} {kw : List (Str × Value)} {Q : Unit → Shared → Prop}
    (hC : h.get? C = some (excClassObj nm q C N bs bm hdct sn sub ab col dd k0 k1 k2 k3 k5 newId)) (hq : Q () ⟨h, g, d, t, os⟩) :
    wpAny M A (checkBuiltinCall newId ⟨.ref C :: us, kw⟩) Q E ⟨h, g, d, t, os⟩ := by
  have of_B : (Value.ref C :: bm).contains (.type B) = true := by rw [List.contains_cons, hT, F.hasB, Bool.or_true]
  have star := F.noStar
  simp only [checkBuiltinCall, F.newKind, F.newSplit, F.newRow]
  repeat (first
    | refine wpAny_loadPart_at hC ?_
    | (refine wpAny_isSubtype_exc hC ?_; rw [of_B])
    | refine wpAny_staticBase_exc hC ?_
    | refine wpAny_madeBy_exc hC ?_
    | simp only [bne_self_eq_false, Bool.false_eq_true, if_false]
    | wp_step)
  exact hq
variable {prog : Program} {w : World} {R : Result → Shared → Prop}
/-- what __new__ lays: the arguments by position, then the error -/
theorem new_laid (F : ExcBaseFacts B newId initId bmB) (hT : ∀ X : String, bm.contains (.type X) = bmB.contains (.type X)) {us : List Value} {kw : List (Str × Value)}
    (hC : h.get? C = some (excClassObj nm q C N bs bm hdct sn sub ab col dd k0 k1 k2 k3 k5 newId)) (hus : us.length ≤ sizeLine)
    (hq : R (.ok (.ret (.ref (h.objs.size + 1)))) ⟨(h.push (W.kdv_tup us)).push (HandSPX.excO C h.objs.size), g, d, t, os⟩) :
    codeAny (model prog w) A (.builtin newId ⟨.ref C :: us, kw⟩) R ⟨h, g, d, t, os⟩ := by
  have ends := F.ends
  have of_B : (Value.ref C :: bm).contains (.type B) = true := by rw [List.contains_cons, hT, F.hasB, Bool.or_true]
  have no_A : (Value.ref C :: bm).contains (.type "AttributeError") = false := by
    rw [List.contains_cons, hT, F.noAttr]
    rfl
  have no_N : (Value.ref C :: bm).contains (.type "NameError") = false := by
    rw [List.contains_cons, hT, F.noName]
    rfl
  refine codeAny_builtinAt F.entry ?_
  unfold Builtin.«BaseException.__new__»
  refine wpAt_bind ?_
  show wpAt _ _ _ (stack >>= _) _ _ _
  refine wpAt_bind (wpAt_stack fun _ _ => wpAt_of_wpAny ?_)
  wp_walk
  refine wpAt_of_wpAny ?_
  rw [F.owner]
  repeat (first
    | with_reducible refine wpAny_madeHere_exc F.canon hC ?_
    | with_reducible refine wpAny_loadPart_at hC ?_
    | (with_reducible refine wpAny_isSubtype_exc hC ?_; first | rw [of_B] | rw [no_A] | rw [no_N])
    | wp_step)
  show R _ _
  rw [Heap.size_push]
  exact hq
theorem type_asked {us : List Value} {kw : List (Str × Value)} {Q : Unit → Shared → Prop} (hC : h.get? C = some (excClassObj nm q C N bs bm hdct sn sub ab col dd k0 k1 k2 k3 k5 newId)) (hq : Q () ⟨h, g, d, t, os⟩) :
    wpAny M A (checkBuiltinCall "type.__call__" ⟨.ref C :: us, kw⟩) Q E ⟨h, g, d, t, os⟩ := by
  have sub := tc_sub
  have ty : (⟨h, g, d, t, os⟩ : Shared).TypeIs (.ref C) "type" := ⟨_, hC, rfl⟩
  simp only [checkBuiltinCall, tc_kind, tc_split]
  repeat (any_goals (first
    | assumption
    | with_reducible refine wpAny_loadPart_at hC ?_
    | with_reducible refine wpAny_onRaise ?_
    | with_reducible refine wpAny_map ?_
    | wp_step))
/-- the class called: __new__, then the def at fI with the same arguments behind the new error -/
theorem called (F : ExcBaseFacts B newId initId bmB) (hT : ∀ X : String, bm.contains (.type X) = bmB.contains (.type X)) {us : List Value} {kw : List (Str × Value)} {fI : Addr}
    (hC : h.get? C = some (excClassObj nm q C N bs bm hdct sn sub ab col dd k0 k1 k2 k3 k5 newId)) (hus : us.length ≤ sizeLine)
    (hi : W.Looks (model prog w) h (typeLookup (.ref C) "__init__") (some (.ref fI))) (hb : ∀ self, W.Looks (model prog w) h (bindSpecial (.ref fI) self) (.ref fI, [self]))
    (hq : codeAny (model prog w) (A.under (.builtin "type.__call__" ⟨.ref C :: us, kw⟩)) (.call (.ref fI) ⟨.ref (h.objs.size + 1) :: us, kw⟩) (W.InitBack (h.objs.size + 1) R)
      ⟨(h.push (W.kdv_tup us)).push (HandSPX.excO C h.objs.size), g, d, t, os⟩) :
    codeAny (model prog w) A (.call (.ref C) ⟨us, kw⟩) R ⟨h, g, d, t, os⟩ := by
  have f1 := tc_lookup
  have f2 := tc_bind (.ref C)
  have ty : (⟨h, g, d, t, os⟩ : Shared).TypeIs (.ref C) "type" := ⟨_, hC, rfl⟩
  refine codeAny_of_tree ?_
  show wpAny _ _ (callAny (.ref C) _) _ _ _
  repeat (any_goals (first
    | assumption
    | with_reducible refine wpAny_loadPart_at hC ?_
    | wp_step))
  refine ⟨rfl, ?_⟩
  refine codeAny_call_builtin_at (Code.quiet_builtin _ (by decide +kernel)) entry_typeCall (type_asked hC ?_)
  repeat (first
    | with_reducible refine wpAny_loadPart_at hC ?_
    | with_reducible refine wpAny_madeBy_exc hC ?_
    | wp_step)
  refine codeAny_call_builtin_code (Code.quiet_builtin _ F.quiet) (new_asked F hT hC (new_laid F hT hC hus ?_))
  show wpAny _ _ _ _ _ ⟨(h.push (W.kdv_tup us)).push (HandSPX.excO C h.objs.size), g, d, t, os⟩
  have old : ∀ b o, h.get? b = some o → ((h.push (W.kdv_tup us)).push (HandSPX.excO C h.objs.size)).get? b = some o := fun b o e => Heap.get?_push_of_some _ (Heap.get?_push_of_some _ e)
  have new : ((h.push (W.kdv_tup us)).push (HandSPX.excO C h.objs.size)).get? (h.objs.size + 1) = some (HandSPX.excO C h.objs.size) := by heap_get
  have self : (Value.ref C :: bm).contains (.ref C) = true := by simp
  have hC1 := old _ _ hC
  have hi1 := hi.keeps old
  have hb1 := (hb (.ref (h.objs.size + 1))).keeps old
  unfold isInstance
  repeat (first
    | with_reducible refine wpAny_loadPart_at new ?_
    | (with_reducible refine wpAny_isSubtype_exc hC1 ?_; rw [self])
    | wp_step)
  show wpAny _ _ (typeLookup (.ref C) _) _ _ _
  refine hi1.at (wpAny_holding (wpAny_bind (hb1.at ?_)))
  refine wpAny_bind (wpAny_call (codeAny_mono hq fun r s' z => ?_))
  match r, z with
  | .error e, z => exact z
  | .ok .next, z => exact z.elim
  | .ok .brk, z => exact z.elim
  | .ok .cont, z => exact z.elim
  | .ok (.ret v), ⟨e, z⟩ =>
    subst e
    first
      | exact wpAny_pure (wpAny_pure z)
      | (wp_walk; exact z)
end
end Zk

set_option maxHeartbeats 4000000
/-! E2: the rules for own errors: made as values, their fields read, isinstance asked, raised. -/
namespace Zk
open PySem PySem.Spec PyProof.Rows L2
open PySem.W (findIn subIn typeIn keepIn excTail)

/-- an error of the class at C that stands at a, with its one field f that holds v -/
def ErrAt (H : Hp) (C : Addr) (f : Str) (v : V) (a : Addr) : Prop := ∃ d, H a = some (exo a C (some d)) ∧ H d = some (exd d [(f, v)])
theorem ErrAt.same {H H' : Hp} (e : Same H H') {C : Addr} {f : Str} {v : V} {a : Addr} (h : ErrAt H C f v a) : ErrAt H' C f v a := by
  obtain ⟨d, h1, h2⟩ := h
  exact ⟨d, e _ _ h1, e _ _ h2⟩

section
variable {X : Cx} {o e : Expr} {es : List Expr} {to te : TE} {ta : TA} {f : Str} {p p' p1 p2 pos : Pos} {B C fI : Addr} {x : Str} {pins : List (Addr × Obj)} {σ : List (Option V)} {H : Hp} {s : Shared}
/-- how the arguments of a call by position, or by name, come to __init__'s parameters -/
def KwOk (K : PySem.W.Frag) (fd : FuncData) (ps ks : List Str) (n m : Nat) : Prop :=
  ∀ (s : Shared) (a : Addr) (us ws : List Value), K.In s.heap → us.length = n → ws.length = m → BindsTo s fd ⟨.ref a :: us, ks.zip ws⟩ (ps.zip (.ref a :: (us ++ ws)))
/-- the new object, and then its own __init__ -/
theorem run_mke {k n m : Nat} {fd : FuncData} {ps ks : List Str} {sp : Sp} {R : Result → Shared → Prop} {us ws : List Value} {vs zs : List V} {Q : VK}
    (T : OwnE X.K C) (iC : findIn X.K (.ref C) "__init__" = some (some (.ref fI))) (tI : typeIn X.K (.ref fI) = some (.type "function")) (F1 : FnOk X.prog X.w X.K X.mg X.base CX0 k fI fd ps sp) (hr : Room (k + 1) X.A)
    (hb : KwOk X.K fd ps ks n m) (r : Vals vs us) (rz : Vals zs ws) (hn : us.length = n) (hm : ws.length = m) (hz : us.length ≤ 1000) (I : Inv X pins σ H s)
    (h : ∀ a, H a = none → sp (.ref a :: (vs ++ zs)) (upd H a (exo a C none)) Q E0) (back : ∀ u v H' s' a, H a = none → L2.RelV v u → Q v H' → u = Value.none ∧ (s'.os = s.os → AllBare s'.gens → HOk X.prog X.w H' s'.heap →
      ∀ hp2 : Heap, (∀ b o, s.heap.get? b = some o → hp2.get? b = some o) → s.heap.objs.size ≤ a → Un (frs X.stack) [] (upd H a (exo a C none)) H' hp2 s'.heap → R (.ok (.ret (.ref a))) s')) :
    codeAny (model X.prog X.w) X.A (.call (.ref C) ⟨us, ks.zip ws⟩) R s := by
  obtain ⟨nm, q, N, bs, bm, sn, sub, ab, col, dd, k0, k1, k2, k3, k5, hC, hbm⟩ := T.obj
  obtain ⟨hp, g, dr, tk, os⟩ := s
  have big : hp.objs.size ≤ hp.objs.size + 1 := Nat.le_succ _
  have none1 : H (hp.objs.size + 1) = none := I.hok.fresh big
  have old : ∀ b o, hp.get? b = some o → ((hp.push (PySem.W.kdv_tup us)).push (HandSPX.excO C hp.objs.size)).get? b = some o := fun b o e => Heap.get?_push_of_some _ (Heap.get?_push_of_some _ e)
  have new : ((hp.push (PySem.W.kdv_tup us)).push (HandSPX.excO C hp.objs.size)).get? (hp.objs.size + 1) = some (HandSPX.excO C hp.objs.size) := by heap_get
  have J : Inv X pins σ (upd H (hp.objs.size + 1) (exo (hp.objs.size + 1) C none)) ⟨(hp.push (PySem.W.kdv_tup us)).push (HandSPX.excO C hp.objs.size), g, dr, tk, os⟩ := I.laid (t' := tk) old big (exo_ok new)
  have rr : Vals (V.ref (hp.objs.size + 1) :: (vs ++ zs)) (Value.ref (hp.objs.size + 1) :: (us ++ ws)) := .cons rfl (r.append rz)
  have line : us.length ≤ sizeLine := by
    rw [sizeLine_eq]
    omega
  refine called F.excBase_Exception (fun n => PySem.W.excTail_contains n bm hbm) (I.kIn _ _ hC) line (PySem.W.looks_findIn I.kIn iC) (fun self => PySem.W.bind_fn I.kIn self tI) ?_
  refine codeAny_mono (F1.run _ X.stack _ _ ⟨.ref (hp.objs.size + 1) :: us, ks.zip ws⟩ _ _ Q E0 (hr.make C us (ks.zip ws)) (J.env0.make C us (ks.zip ws)) (hb _ _ us ws J.kIn hn hm) rr (h _ none1)) ?_
  intro r s' z
  match r, z with
  | .error er, z => exact z.elim
  | .ok .next, z => exact z.elim
  | .ok .brk, z => exact z.elim
  | .ok .cont, z => exact z.elim
  | .ok (.ret u), ⟨v, H2, os2, bare2, un2, hok2, rv, q2⟩ =>
    obtain ⟨e1, fin⟩ := back u v H2 s' (hp.objs.size + 1) none1 rv q2
    exact ⟨e1, fin os2 bare2 hok2 _ old big un2⟩
/-- .. held as a value -/
theorem run_mkv {k n m : Nat} {fd : FuncData} {ps ks : List Str} {sp : Sp} {us ws : List Value} {vs zs : List V} {Q : VK}
    (T : OwnE X.K C) (iC : findIn X.K (.ref C) "__init__" = some (some (.ref fI))) (tI : typeIn X.K (.ref fI) = some (.type "function")) (F1 : FnOk X.prog X.w X.K X.mg X.base CX0 k fI fd ps sp) (hr : Room (k + 1) X.A)
    (hb : KwOk X.K fd ps ks n m) (r : Vals vs us) (rz : Vals zs ws) (hn : us.length = n) (hm : ws.length = m) (hz : us.length ≤ 1000) (I : Inv X pins σ H s)
    (h : ∀ a, H a = none → sp (.ref a :: (vs ++ zs)) (upd H a (exo a C none)) (fun v H3 => v = .non ∧ Q (.ref a) H3) E0) :
    wpAny (model X.prog X.w) X.A (call (.ref C) us (ks.zip ws)) (EP X pins σ Q) X.xe s := by
  obtain ⟨nm, q, N, bs, bm, sn, sub, ab, col, dd, k0, k1, k2, k3, k5, hC, hbm⟩ := T.obj
  obtain ⟨hp, g, dr, tk, os⟩ := s
  have big : hp.objs.size ≤ hp.objs.size + 1 := Nat.le_succ _
  have none1 : H (hp.objs.size + 1) = none := I.hok.fresh big
  have old : ∀ b o, hp.get? b = some o → ((hp.push (PySem.W.kdv_tup us)).push (HandSPX.excO C hp.objs.size)).get? b = some o := fun b o e => Heap.get?_push_of_some _ (Heap.get?_push_of_some _ e)
  have new : ((hp.push (PySem.W.kdv_tup us)).push (HandSPX.excO C hp.objs.size)).get? (hp.objs.size + 1) = some (HandSPX.excO C hp.objs.size) := by heap_get
  have J : Inv X pins σ (upd H (hp.objs.size + 1) (exo (hp.objs.size + 1) C none)) ⟨(hp.push (PySem.W.kdv_tup us)).push (HandSPX.excO C hp.objs.size), g, dr, tk, os⟩ := I.laid (t' := tk) old big (exo_ok new)
  have rr : Vals (V.ref (hp.objs.size + 1) :: (vs ++ zs)) (Value.ref (hp.objs.size + 1) :: (us ++ ws)) := .cons rfl (r.append rz)
  have line : us.length ≤ sizeLine := by
    rw [sizeLine_eq]
    omega
  refine wpAny_call (called F.excBase_Exception (fun n => PySem.W.excTail_contains n bm hbm) (I.kIn _ _ hC) line (PySem.W.looks_findIn I.kIn iC) (fun self => PySem.W.bind_fn I.kIn self tI) ?_)
  refine codeAny_mono (F1.run _ X.stack _ _ ⟨.ref (hp.objs.size + 1) :: us, ks.zip ws⟩ _ _ _ E0 (hr.make C us (ks.zip ws)) (J.env0.make C us (ks.zip ws)) (hb _ _ us ws J.kIn hn hm) rr (h _ none1)) ?_
  intro r s' z
  match r, z with
  | .error er, z => exact z.elim
  | .ok .next, z => exact z.elim
  | .ok .brk, z => exact z.elim
  | .ok .cont, z => exact z.elim
  | .ok (.ret u), z =>
    obtain ⟨v, H2, J2, rv, e, q2⟩ := J.after z
    subst e
    exact ⟨rv, .ref (hp.objs.size + 1), H2, J2, rfl, q2⟩
/-- C(e, ..) -/
theorem pe_mkv {k n : Nat} {fd : FuncData} {ps : List Str} {sp : Sp} (T : OwnE X.K C) (iC : findIn X.K (.ref C) "__init__" = some (some (.ref fI))) (tI : typeIn X.K (.ref fI) = some (.type "function"))
    (F1 : FnOk X.prog X.w X.K X.mg X.base CX0 k fI fd ps sp) (hr : Room (k + 1) X.A) (hb : KwOk X.K fd ps [] n 0) (hg : Gl X x) (hm : X.mg x = some (.ref C)) (ha : PA X (e :: es) ta)
    (hdb : (x == ("__debug__" : Str)) = false := by decide) (he : starEach (e :: es) X.env = (false, eval e X.env) :: starEach es X.env := by rfl) (hpl : (backTo pos (starEach es X.env)).any (·.1) = false := by rfl) :
    PE X (.Call (.Name x p) (e :: es) [] pos) (fun σ H Q => ta σ H fun vs H1 => vs.length = n ∧ n ≤ 1000 ∧ ∀ a, H1 a = none → sp (.ref a :: vs) (upd H1 a (exo a C none)) (fun v H3 => v = .non ∧ Q (.ref a) H3) E0) := by
  refine ⟨fun pins s σ H Q I h => wpAny_Call_Name_kw (ld_glob I hg hm ?_ hdb)⟩
  refine PySem.W.callWith_K (h₀ := X.base) I.ok.mod.kin T.kC (thn (ha.run pos pins s σ H _ I h) ?_) he hpl
  rintro us s1 ⟨vs, H1, I1, r1, rfl, hz, q1⟩
  have := run_mkv (ks := []) (ws := []) (zs := []) T iC tI F1 hr hb r1 .nil r1.length.symm rfl (by rw [← r1.length]; exact hz) I1 (fun a na => by simpa using q1 a na)
  exact ⟨I1.kIn, this⟩
/-- C() -/
theorem pe_mkv0 {k : Nat} {fd : FuncData} {ps : List Str} {sp : Sp} (T : OwnE X.K C) (iC : findIn X.K (.ref C) "__init__" = some (some (.ref fI))) (tI : typeIn X.K (.ref fI) = some (.type "function"))
    (F1 : FnOk X.prog X.w X.K X.mg X.base CX0 k fI fd ps sp) (hr : Room (k + 1) X.A) (hb : KwOk X.K fd ps [] 0 0) (hg : Gl X x) (hm : X.mg x = some (.ref C)) (hdb : (x == ("__debug__" : Str)) = false := by decide) :
    PE X (.Call (.Name x p) [] [] pos) (fun σ H Q => ∀ a, H a = none → sp [.ref a] (upd H a (exo a C none)) (fun v H3 => v = .non ∧ Q (.ref a) H3) E0) := by
  refine ⟨fun pins s σ H Q I h => wpAny_Call_Name_kw (ld_glob I hg hm ?_ hdb)⟩
  refine PySem.W.callWith_K0 I.kIn T.kC ?_
  exact run_mkv (ks := []) (us := []) (ws := []) (vs := []) (zs := []) T iC tI F1 hr hb .nil .nil rfl rfl (Nat.zero_le _) I (fun a na => h a na)
/-- C(k = e, ..) -/
theorem pe_mkvK {k m : Nat} {fd : FuncData} {ps ks : List Str} {sp : Sp} {kws : List Keyword} {tk : TA} (T : OwnE X.K C) (iC : findIn X.K (.ref C) "__init__" = some (some (.ref fI))) (tI : typeIn X.K (.ref fI) = some (.type "function"))
    (F1 : FnOk X.prog X.w X.K X.mg X.base CX0 k fI fd ps sp) (hr : Room (k + 1) X.A) (hb : KwOk X.K fd ps ks 0 m) (hg : Gl X x) (hm : X.mg x = some (.ref C)) (hkw : PK X kws tk)
    (hall : (backToKw pos (keywordEach kws X.env)).all (·.1.isSome) = true := by rfl) (hks : (backToKw pos (keywordEach kws X.env)).filterMap (·.1) = ks := by rfl) (hdb : (x == ("__debug__" : Str)) = false := by decide)
    (hpl : ((backTo pos (starEach [] X.env)).any (·.1) || (backToKw pos (keywordEach kws X.env)).any (·.1.isNone)) = false := by rfl) :
    PE X (.Call (.Name x p) [] kws pos) (fun σ H Q => tk σ H fun zs H1 => zs.length = m ∧ ∀ a, H1 a = none → sp (.ref a :: zs) (upd H1 a (exo a C none)) (fun v H3 => v = .non ∧ Q (.ref a) H3) E0) := by
  refine ⟨fun pins s σ H Q I h => wpAny_Call_Name_kw (ld_glob I hg hm ?_ hdb)⟩
  refine PySem.W.callWith_KW0 (h₀ := X.base) I.ok.mod.kin T.kC hall (thn (hkw.run pos pins s σ H _ I h) ?_) hpl
  rintro ws s1 ⟨zs, H1, I1, r1, rfl, q1⟩
  refine ⟨I1.kIn, ?_⟩
  rw [hks]
  exact run_mkv (us := []) (vs := []) T iC tI F1 hr hb .nil r1 rfl r1.length.symm (Nat.zero_le _) I1 q1
end
end Zk

set_option maxHeartbeats 4000000
/-! E3: own errors: fields, isinstance, raise. -/
namespace Zk
open PySem PySem.Spec PyProof.Rows L2
open PySem.W (findIn subIn typeIn keepIn excTail)
section
variable {X : Cx} {o e : Expr} {es : List Expr} {to te : TE} {ta : TA} {f : Str} {p p' p1 p2 pos : Pos} {B C fI : Addr} {x : Str} {pins : List (Addr × Obj)} {σ : List (Option V)} {H : Hp} {s : Shared}
/-- how a tracked error stands, for the library's rules -/
theorem err_inst {a d : Addr} {fs : List (Str × V)} (I : Inv X pins σ H s) (h1 : H a = some (exo a C (some d))) (h2 : H d = some (exd d fs)) :
    ∃ (ox od : Obj) (mA : Str → Option Value), PySem.W.InstAt s.heap a ox C (some od) ∧ s.heap.Ns1 d mA ∧ s.heap.get? d = some od ∧ ∀ g, RelO (fs.lookup g) (mA g) := by
  obtain ⟨t1, ho⟩ := exo_at I.hok h1
  obtain ⟨mA, hn, rel⟩ := exd_at I.hok h2
  obtain ⟨od, hd, _⟩ := lookIn_ns hn
  exact ⟨_, od, mA, ⟨ho, rfl, rfl, hd⟩, hn, hd, rel⟩
/-- e.f, e a tracked error -/
def tErrF (K : PySem.W.Frag) (f : Str) (te : TE) : TE := fun σ H Q => te σ H fun x H1 => ∃ (a C d : Addr) (fs : List (Str × V)) (v : V), x = .ref a ∧ OwnE K C ∧ findIn K (.ref C) f = some none ∧ H1 a = some (exo a C (some d)) ∧ H1 d = some (exd d fs) ∧ fs.lookup f = some v ∧ Q v H1
theorem pe_errf (he : PE X e te) (hb : attributeBase e f X.env (eval e X.env) = eval e X.env := by rfl) : PE X (.Attribute e f pos) (tErrF X.K f te) := by
  refine ⟨fun pins s σ H Q I h => attr_of hb (thn (he.run pins s σ H _ I h) ?_)⟩
  rintro u s1 ⟨x, H1, I1, rx, a, C, d, fs, v, rfl, T, hno, h1, h2, hl, q⟩
  obtain rfl : u = Value.ref a := rx
  obtain ⟨t1, ho⟩ := exo_at I1.hok h1
  obtain ⟨mA, hn, rel⟩ := exd_at I1.hok h2
  obtain ⟨od, hd, hlk⟩ := lookIn_ns hn
  obtain ⟨w, hw, rw_⟩ := RelO.some_of (v := v) (o := mA f) (by rw [← hl]; exact rel f)
  have J : PySem.W.InstAt s1.heap a _ C (some od) := ⟨ho, rfl, rfl, hd⟩
  obtain ⟨cd, hcd, hdict, _⟩ := T.cd
  have hdc : PySem.W.hasDictIn X.K C = true := by
    unfold PySem.W.hasDictIn
    rw [hcd]
    exact hdict
  exact HandSPX.exc_get I1.kIn J T.ga T.gg T.exC (PySem.W.findObj_own hdc hno rfl (by rw [hlk, hw])) (handed_of rw_) ⟨v, H1, I1.tok _, rw_, q⟩
/-- isinstance(e, c) of a tracked error, with its dict or without -/
def rIsErr (K : PySem.W.Frag) : List V → Hp → VK → Prop := fun xs H Q => ∃ (a C : Addr) (c : V) (u : Value) (b : Bool), xs = [.ref a, c] ∧ ClsV c u ∧ OwnE K C ∧ ClsG K ∧ (H a = some (exo a C none) ∨ ∃ f v, ErrAt H C f v a) ∧ PySem.W.kitOne K (.ref C) u = some b ∧ Q (.bl b) H
def rIsErrT (K : PySem.W.Frag) : List V → Hp → VK → Prop := fun xs H Q => ∃ (a C tp : Addr) (cs : List V) (us : List Value) (b : Bool), xs = [.ref a, .ref tp] ∧ H tp = some (.tup cs) ∧ Paired ClsV cs us ∧ OwnE K C ∧ ClsG K ∧ (H a = some (exo a C none) ∨ ∃ f v, ErrAt H C f v a) ∧
  PySem.W.kitAny K (.ref C) us = some b ∧ Q (.bl b) H
theorem err_kit {a : Addr} (I : Inv X pins σ H s) (T : OwnE X.K C) (G : ClsG X.K) (h : H a = some (exo a C none) ∨ ∃ f v, ErrAt H C f v a) : ∃ P : Heap → Prop, PySem.W.KitX X.K (.ref a) (.ref C) P ∧ P s.heap := by
  rcases h with h | ⟨f, v, d, h1, h2⟩
  · obtain ⟨t1, ho⟩ := exo_at I.hok h
    exact ⟨_, PySem.W.kitx_exc (od := none) T.isCls T.ga T.gg T.exC T.ca G.sp G.tk (T.mro (by decide +kernel)), ⟨ho, rfl, rfl, trivial⟩⟩
  · obtain ⟨ox, od, mA, J, _⟩ := err_inst I h1 h2
    exact ⟨_, PySem.W.kitx_exc (od := some od) T.isCls T.ga T.gg T.exC T.ca G.sp G.tk (T.mro (by decide +kernel)), J⟩
theorem call_isErr : CallR X (.builtin "isinstance") (rIsErr X.K) := by
  intro pins s σ H xs us Q I r h
  obtain ⟨a, C, c, u, b, rfl, k, T, G, hh, e, q⟩ := h
  obtain ⟨u1, u2, rfl, r1, r2⟩ := vals2 r
  obtain rfl : u1 = Value.ref a := r1
  have e2 := k.eq r2
  subst e2
  obtain ⟨P, Z, hp⟩ := err_kit I T G hh
  exact PySem.W.kia_one Z I.kIn hp e (fun z => nomatch z) fun tk => ⟨.bl b, H, I.tok tk, rfl, q⟩
theorem call_isErrT : CallR X (.builtin "isinstance") (rIsErrT X.K) := by
  intro pins s σ H xs us Q I r h
  obtain ⟨a, C, tp, cs, ws, b, rfl, hT, k, T, G, hh, e, q⟩ := h
  obtain ⟨u1, u2, rfl, r1, r2⟩ := vals2 r
  obtain rfl : u1 = Value.ref a := r1
  obtain rfl : u2 = Value.ref tp := r2
  obtain ⟨P, Z, hp⟩ := err_kit I T G hh
  obtain ⟨_, its, rv, o, h1, h2, n, h3⟩ := I.hok tp _ hT
  have e3 := ClsV.all k rv
  subst e3
  obtain ⟨oc, od, dt, sl⟩ := o
  cases (show oc = _ from h2)
  cases (show dt = _ from h3)
  exact PySem.W.kia_tup Z I.kIn hp h1 e (fun z => nomatch z) fun tk => ⟨.bl b, H, I.tok tk, rfl, q⟩

/-! ### raised -/
theorem err_raises (T : OwnE X.K C) : Raises X (.ref C) := raises_own T.exC T.tyC
/-- what __init__ must leave, for the error to be raised -/
def made (C : Addr) (H1 : Hp) (a : Addr) (Q : XK) : VK := fun v H3 => v = .non ∧ ∃ (d : Addr) (fs : List (Str × V)), H3 a = some (exo a C (some d)) ∧ H3 d = some (exd d fs) ∧ H1 d = none ∧ Q (.ref C) (some d) (upd (del H3 a) d (.xd fs))
theorem run_mkx {k n m : Nat} {fd : FuncData} {ps ks : List Str} {sp : Sp} {us ws : List Value} {vs zs : List V} {Q : XK}
    (T : OwnE X.K C) (iC : findIn X.K (.ref C) "__init__" = some (some (.ref fI))) (tI : typeIn X.K (.ref fI) = some (.type "function")) (F1 : FnOk X.prog X.w X.K X.mg X.base CX0 k fI fd ps sp) (hr : Room (k + 1) X.A)
    (hb : KwOk X.K fd ps ks n m) (r : Vals vs us) (rz : Vals zs ws) (hn : us.length = n) (hm : ws.length = m) (hz : us.length ≤ 1000) (I : Inv X pins σ H s)
    (h : ∀ a, H a = none → sp (.ref a :: (vs ++ zs)) (upd H a (exo a C none)) (made C H a Q) E0) : wpAny (model X.prog X.w) X.A (call (.ref C) us (ks.zip ws)) (MkP X pins σ Q) X.xe s := by
  obtain ⟨nm, q, N, bs, bm, sn, sub, ab, col, dd, k0, k1, k2, k3, k5, hC, hbm⟩ := T.obj
  obtain ⟨hp, g, dr, tk, os⟩ := s
  have big : hp.objs.size ≤ hp.objs.size + 1 := Nat.le_succ _
  have none1 : H (hp.objs.size + 1) = none := I.hok.fresh big
  have old : ∀ b o, hp.get? b = some o → ((hp.push (PySem.W.kdv_tup us)).push (HandSPX.excO C hp.objs.size)).get? b = some o := fun b o e => Heap.get?_push_of_some _ (Heap.get?_push_of_some _ e)
  have new : ((hp.push (PySem.W.kdv_tup us)).push (HandSPX.excO C hp.objs.size)).get? (hp.objs.size + 1) = some (HandSPX.excO C hp.objs.size) := by heap_get
  have J : Inv X pins σ (upd H (hp.objs.size + 1) (exo (hp.objs.size + 1) C none)) ⟨(hp.push (PySem.W.kdv_tup us)).push (HandSPX.excO C hp.objs.size), g, dr, tk, os⟩ := I.laid (t' := tk) old big (exo_ok new)
  have rr : Vals (V.ref (hp.objs.size + 1) :: (vs ++ zs)) (Value.ref (hp.objs.size + 1) :: (us ++ ws)) := .cons rfl (r.append rz)
  have line : us.length ≤ sizeLine := by
    rw [sizeLine_eq]
    omega
  refine wpAny_call (called F.excBase_Exception (fun n => PySem.W.excTail_contains n bm hbm) (I.kIn _ _ hC) line (PySem.W.looks_findIn I.kIn iC) (fun self => PySem.W.bind_fn I.kIn self tI) ?_)
  refine codeAny_mono (F1.run _ X.stack _ _ ⟨.ref (hp.objs.size + 1) :: us, ks.zip ws⟩ _ _ _ E0 (hr.make C us (ks.zip ws)) (J.env0.make C us (ks.zip ws)) (hb _ _ us ws J.kIn hn hm) rr (h _ none1)) ?_
  intro r s' z
  match r, z with
  | .error er, z => exact z.elim
  | .ok .next, z => exact z.elim
  | .ok .brk, z => exact z.elim
  | .ok .cont, z => exact z.elim
  | .ok (.ret u), ⟨v, H2, os2, bare2, un2, hok2, rv, e, d, fs, ea, ed, hd1, q2⟩ =>
    subst e
    obtain ⟨h2, g2, d2, t2, os'⟩ := s'
    exact ⟨rv, mk_end (err_raises T) I big old un2 hok2 os2 bare2 ea ed hd1 q2⟩
/-- raise C(e, ..) -/
theorem pmk_err {k n : Nat} {fd : FuncData} {ps : List Str} {sp : Sp} (T : OwnE X.K C) (iC : findIn X.K (.ref C) "__init__" = some (some (.ref fI))) (tI : typeIn X.K (.ref fI) = some (.type "function"))
    (F1 : FnOk X.prog X.w X.K X.mg X.base CX0 k fI fd ps sp) (hr : Room (k + 1) X.A) (hb : KwOk X.K fd ps [] n 0) (hg : Gl X x) (hm : X.mg x = some (.ref C)) (ha : PA X (e :: es) ta)
    (hdb : (x == ("__debug__" : Str)) = false := by decide) (he : starEach (e :: es) X.env = (false, eval e X.env) :: starEach es X.env := by rfl) (hpl : (backTo pos (starEach es X.env)).any (·.1) = false := by rfl) :
    PMk X (.Call (.Name x p) (e :: es) [] pos) (fun σ H Q => ta σ H fun vs H1 => vs.length = n ∧ n ≤ 1000 ∧ ∀ a, H1 a = none → sp (.ref a :: vs) (upd H1 a (exo a C none)) (made C H1 a Q) E0) := by
  intro pins s σ H Q I h
  refine wpAny_Call_Name_kw (ld_glob I hg hm ?_ hdb)
  refine PySem.W.callWith_K (h₀ := X.base) I.ok.mod.kin T.kC (thn (ha.run pos pins s σ H _ I h) ?_) he hpl
  rintro us s1 ⟨vs, H1, I1, r1, rfl, hz, q1⟩
  have := run_mkx (ks := []) (ws := []) (zs := []) T iC tI F1 hr hb r1 .nil r1.length.symm rfl (by rw [← r1.length]; exact hz) I1 (fun a na => by simpa using q1 a na)
  exact ⟨I1.kIn, this⟩
/-- raise C(k = e, ..) -/
theorem pmk_errK {k m : Nat} {fd : FuncData} {ps ks : List Str} {sp : Sp} {kws : List Keyword} {tk : TA} (T : OwnE X.K C) (iC : findIn X.K (.ref C) "__init__" = some (some (.ref fI))) (tI : typeIn X.K (.ref fI) = some (.type "function"))
    (F1 : FnOk X.prog X.w X.K X.mg X.base CX0 k fI fd ps sp) (hr : Room (k + 1) X.A) (hb : KwOk X.K fd ps ks 0 m) (hg : Gl X x) (hm : X.mg x = some (.ref C)) (hkw : PK X kws tk)
    (hall : (backToKw pos (keywordEach kws X.env)).all (·.1.isSome) = true := by rfl) (hks : (backToKw pos (keywordEach kws X.env)).filterMap (·.1) = ks := by rfl) (hdb : (x == ("__debug__" : Str)) = false := by decide)
    (hpl : ((backTo pos (starEach [] X.env)).any (·.1) || (backToKw pos (keywordEach kws X.env)).any (·.1.isNone)) = false := by rfl) :
    PMk X (.Call (.Name x p) [] kws pos) (fun σ H Q => tk σ H fun zs H1 => zs.length = m ∧ ∀ a, H1 a = none → sp (.ref a :: zs) (upd H1 a (exo a C none)) (made C H1 a Q) E0) := by
  intro pins s σ H Q I h
  refine wpAny_Call_Name_kw (ld_glob I hg hm ?_ hdb)
  refine PySem.W.callWith_KW0 (h₀ := X.base) I.ok.mod.kin T.kC hall (thn (hkw.run pos pins s σ H _ I h) ?_) hpl
  rintro ws s1 ⟨zs, H1, I1, r1, rfl, q1⟩
  refine ⟨I1.kIn, ?_⟩
  rw [hks]
  exact run_mkx (us := []) (vs := []) T iC tI F1 hr hb .nil r1 rfl r1.length.symm (Nat.zero_le _) I1 q1
end
end Zk

set_option maxHeartbeats 4000000
/-! E4: an error without fields raised; several except clauses that name the error. -/
namespace Zk
open PySem PySem.Spec PyProof.Rows L2
open PySem.W (findIn subIn typeIn keepIn excTail)
section
variable {X : Cx} {p pos : Pos} {C fI : Addr} {x : Str} {pins : List (Addr × Obj)} {σ : List (Option V)} {H H1 H2 : Hp} {s : Shared}
theorem mk_bare {hp hp2 h2 : Heap} {g1 g2 : Array GenState} {d1 d2 : Drawn} {t1 t2 : Nat} {os1 os2 : OsState} {a : Addr} {Q : XK} (T : OwnE X.K C) (I1 : Inv X pins σ H1 ⟨hp, g1, d1, t1, os1⟩) (ha : hp.objs.size ≤ a)
    (old : ∀ b o, hp.get? b = some o → hp2.get? b = some o) (un : Un (frs X.stack) [] (upd H1 a (exo a C none)) H2 hp2 h2) (hok : HOk X.prog X.w H2 h2) (ho : os2 = os1) (hb : AllBare g2) (ea : H2 a = some (exo a C none)) (q : Q (.ref C) none (del H2 a)) :
    MkP X pins σ Q (.ref a) ⟨h2, g2, d2, t2, os2⟩ := by
  obtain ⟨t0, hoe⟩ := exo_at hok ea
  have free1 : H1 a = none := I1.hok.fresh ha
  obtain ⟨G, in_, out⟩ := restrict h2 fun b => decide (b ≠ a)
  have at_ : ∀ b, b ≠ a → G.get? b = h2.get? b := fun b hb => in_ b (decide_eq_true hb)
  have gone : G.get? a = none := out a (by simp)
  have low : ∀ {b : Addr} {o : Obj}, hp.get? b = some o → b ≠ a := fun z => Nat.ne_of_lt (Nat.lt_of_lt_of_le (Heap.lt_size z) ha)
  have off : ∀ {b : Addr} {r : Option HO}, b ≠ a → H1 b = r → upd H1 a (exo a C none) b = r := fun n e => (upd_ne n).trans e
  have offS : ∀ {b : Addr} {o : HO}, H1 b = some o → b ≠ a := fun e => ne_of_none e free1
  have U : Un (frs X.stack) [] H1 (del H2 a) hp G := by
    constructor
    · exact fun b o z n hf hx => (at_ b (low z)).trans (un.keep b o (old b o z) (off (low z) n) hf hx)
    · intro b o z n hf hx
      obtain ⟨sl, e⟩ := un.slot b o (old b o z) (off (low z) n) hf hx
      exact ⟨sl, (at_ b (low z)).trans e⟩
    · exact fun b o z n hx => (del_ne (low z)).trans (un.free b o (old b o z) (off (low z) n) hx)
    · intro b o z hx
      obtain ⟨o', e⟩ := un.there b o (old b o z) hx
      exact ⟨o', (at_ b (low z)).trans e⟩
    · exact fun b xs z => (del_ne (offS z)).trans (un.tups b xs (off (offS z) z))
    · exact fun b o v z => (del_ne (offS z)).trans (un.frzs b o v (off (offS z) z))
    · intro b ps z
      obtain ⟨m, e⟩ := un.tbls b ps (off (offS z) z)
      exact ⟨m, (del_ne (offS z)).trans e⟩
  have ok3 : HOk X.prog X.w (del H2 a) G := by
    intro b o z
    have hba : b ≠ a := fun e => by
      rw [e, del_same] at z
      cases z
    rw [del_ne hba] at z
    have noa : ∀ {c : Addr} {u : HO}, u ≠ exo a C none → H2 c = some u → c ≠ a := fun n hc e => by
      rw [e, ea] at hc
      exact n (Option.some.inj hc).symm
    refine (hok b o z).stay (fun c v hc y => (at_ c ?_).trans y) (fun c hc => (del_ne (noa exo_own.symm hc)).trans hc) fun c xs hc => (del_ne (noa exo_tup.symm hc)).trans hc
    rcases hc with hc | hc
    · exact hc ▸ hba
    · exact noa exo_own.symm hc
  have J : Inv X pins σ (del H2 a) ⟨G, g2, d2, t2, os2⟩ := I1.call' (ch := []) ho U ok3 hb fun _ z => absurd z List.not_mem_nil
  refine ⟨a, _, _, ⟨G, g2, d2, t2, os2⟩, del H2 a, .ref C, none, rfl, J, fun b o z => ?_, gone, hoe, ⟨rfl, rfl⟩, rfl, rfl, del_same, rfl, hb, err_raises T, q⟩
  by_cases hba : b = a
  · rw [hba, gone] at z
    cases z
  · exact (at_ b hba).symm.trans z
/-- raise C() -/
theorem pmk_err0 {k : Nat} {fd : FuncData} {ps : List Str} {sp : Sp} (T : OwnE X.K C) (iC : findIn X.K (.ref C) "__init__" = some (some (.ref fI))) (tI : typeIn X.K (.ref fI) = some (.type "function"))
    (F1 : FnOk X.prog X.w X.K X.mg X.base CX0 k fI fd ps sp) (hr : Room (k + 1) X.A) (hb : KwOk X.K fd ps [] 0 0) (hg : Gl X x) (hm : X.mg x = some (.ref C)) (hdb : (x == ("__debug__" : Str)) = false := by decide) :
    PMk X (.Call (.Name x p) [] [] pos) (fun σ H Q => ∀ a, H a = none → sp [.ref a] (upd H a (exo a C none)) (fun v H3 => v = .non ∧ H3 a = some (exo a C none) ∧ Q (.ref C) none (del H3 a)) E0) := by
  intro pins s σ H Q I h
  refine wpAny_Call_Name_kw (ld_glob I hg hm ?_ hdb)
  refine PySem.W.callWith_K0 I.kIn T.kC ?_
  obtain ⟨nm, q, N, bs, bm, sn, sub, ab, col, dd, k0, k1, k2, k3, k5, hC, hbm⟩ := T.obj
  obtain ⟨hp, g, dr, tk, os⟩ := s
  have big : hp.objs.size ≤ hp.objs.size + 1 := Nat.le_succ _
  have none1 : H (hp.objs.size + 1) = none := I.hok.fresh big
  have old : ∀ b o, hp.get? b = some o → ((hp.push (PySem.W.kdv_tup [])).push (HandSPX.excO C hp.objs.size)).get? b = some o := fun b o e => Heap.get?_push_of_some _ (Heap.get?_push_of_some _ e)
  have new : ((hp.push (PySem.W.kdv_tup [])).push (HandSPX.excO C hp.objs.size)).get? (hp.objs.size + 1) = some (HandSPX.excO C hp.objs.size) := by heap_get
  have J : Inv X pins σ (upd H (hp.objs.size + 1) (exo (hp.objs.size + 1) C none)) ⟨(hp.push (PySem.W.kdv_tup [])).push (HandSPX.excO C hp.objs.size), g, dr, tk, os⟩ := I.laid (t' := tk) old big (exo_ok new)
  refine wpAny_call (called (us := []) (kw := []) F.excBase_Exception (fun n => PySem.W.excTail_contains n bm hbm) (I.kIn _ _ hC) (Nat.zero_le _) (PySem.W.looks_findIn I.kIn iC) (fun self => PySem.W.bind_fn I.kIn self tI) ?_)
  refine codeAny_mono (F1.run _ X.stack _ _ ⟨[.ref (hp.objs.size + 1)], []⟩ _ [.ref (hp.objs.size + 1)] _ E0 (hr.make C [] []) (J.env0.make C [] []) (hb _ _ [] [] J.kIn rfl rfl) (.cons rfl .nil) (h _ none1)) ?_
  intro r s' z
  match r, z with
  | .error er, z => exact z.elim
  | .ok .next, z => exact z.elim
  | .ok .brk, z => exact z.elim
  | .ok .cont, z => exact z.elim
  | .ok (.ret u), ⟨v, H2, os2, bare2, un2, hok2, rv, e, ea, q2⟩ =>
    subst e
    obtain ⟨h2, g2, d2, t2, os'⟩ := s'
    exact ⟨rv, mk_bare T I big old un2 hok2 os2 bare2 ea q2⟩
end

/-! ### try with several clauses 'except C as n' -/
/-- what the clauses wish of an exception of the body, one after the other; slot i is the name's -/
def wAll (K : PySem.W.Frag) (i : Nat) (Wout : WX) (D : Ends) : List (Value × (Addr → Value → Option Addr → TS)) → WX
  | [] => Wout
  | (c, ts) :: r => fun cls d σ H => ∃ b, PySem.W.exmOne K cls c = some b ∧
      (b = true → ∀ a, H a = none → ts a cls d { nx := fun σ' H' => D.nx (σ'.set i none) H', rt := D.rt, bk := fun σ' H' => D.bk (σ'.set i none) H', ct := fun σ' H' => D.ct (σ'.set i none) H' } (σ.set i (some (.ref a))) H) ∧
      (b = false → wAll K i Wout D r cls d σ H)
inductive ClausesOk (X : Cx) (n : Str) : List ExceptHandler → List (Value × (Addr → Value → Option Addr → TS)) → Prop
  | nil : ClausesOk X n [] []
  | cons {x : Str} {c : Value} {ts : Addr → Value → Option Addr → TS} {b₀ : Stmt} {suite : List Stmt} {np p2 : Pos} {hds : List ExceptHandler} {l : List (Value × (Addr → Value → Option Addr → TS))} (hc : Names X x c)
      (hsu : ∀ (a : Addr) (oe : Obj) (cls : Value) (d : Option Addr) (pn : List (Addr × Obj)), Zc cls d oe → (∃ vs, oe.data = .fields vs) → PSs (X.suite a ((a, oe) :: pn)) (b₀ :: suite) (ts a cls d)) (r : ClausesOk X n hds l) :
      ClausesOk X n (.ExceptHandler (some (.Name x np)) (some n) (b₀ :: suite) p2 :: hds) ((c, ts) :: l)
section
variable {X : Cx} {n : Str} {i : Nat} {body : List Stmt} {h₀ : ExceptHandler} {hds : List ExceptHandler} {l : List (Value × (Addr → Value → Option Addr → TS))} {pos : Pos} {tb : WX → TS} {Wout : WX}
theorem ps_try_all (hs : X.stack = X.env :: X.outer) (hf : X.env.frame = some X.env.locals) (hN : X.N.Nodup) (hi : X.N[i]? = some n) (hln : X.env.kindOf n = some .local) (tk : Takes X Wout)
    (hb : ∀ (W : WX) (pn : List (Addr × Obj)) (xe : Value → Shared → Prop), Takes (X.tr pn xe) W → PassesOwn (model X.prog X.w) X.A X.env xe → PSs (X.tr pn xe) body (tb W))
    (hh : ClausesOk X n (h₀ :: hds) l) : PS X (.Try body (h₀ :: hds) [] [] pos) (fun D σ H => tb (wAll X.K i Wout D l) D σ H) := by
  refine ⟨fun pins s σ H D I h => wpAny_Try_except ?_⟩
  have ok := I.ok
  have frames : X.A.frames = some (X.env :: X.outer) := by rw [ok.frames, hs]
  let xe' : Value → Shared → Prop := fun e s1 => wpAny (model X.prog X.w) X.A (noteFrame e X.env) (fun _ s2 => wpAny (model X.prog X.w) X.A (setFlight e none) (fun _ s3 => wpAny (model X.prog X.w) X.A (handleBy e X.env (h₀ :: hds)) (SP X pins D) X.xe s3) X.xe s2) X.xe s1
  have caught : Takes (X.tr (X.pn ++ pins) xe') (wAll X.K i Wout D l) := by
    rintro u s' ⟨a, B, sI, pins', σ', H', cls, d, rfl, J', nb, up, sky, na, os, ag, wish⟩
    have J : Inv X pins σ' H' sI := J'.ofTry ok
    rw [show (X.tr (X.pn ++ pins) xe').stack = X.env :: X.outer from hs] at sky
    show wpAny (model X.prog X.w) X.A (noteFrame (.ref a) X.env) _ _ _
    refine Sky.land Zc.steady frames hf sky fun h3 fl3 up3 => ?_
    have J3 : Inv X pins σ' H' { s' with heap := h3 } := J.landed nb fl3.1 (up.trans up3) os ag
    obtain ⟨oe3, vs3, he3, hz3, hd3⟩ := fl3.there
    have apart : a ∉ frs (X.env :: X.outer) := fun hm => by
      obtain ⟨_, o', e', hnf⟩ := fl3.2.2.1.mem hm
      rw [he3] at e'
      cases e'
      exact hnf _ hd3
    have nL : a ≠ X.env.locals := fun z => apart (List.mem_filterMap.mpr ⟨X.env, List.mem_cons_self, by rw [hf, z]⟩)
    have nF : a ∉ X.fs := fun hm => by
      obtain ⟨e, he, q⟩ := List.mem_filterMap.mp hm
      exact apart (List.mem_filterMap.mpr ⟨e, List.mem_cons_of_mem _ he, q⟩)
    have S3 := J3.suite he3 hd3 na nL nF
    have LT : PySem.W.Looks (model X.prog X.w) h3 (typeOf (.ref a)) cls := fun A Q E s k q => wpAny_typeOf_ref (k _ _ he3) (by rw [hz3.1]; exact q)
    have go : ∀ {hds' : List ExceptHandler} {l' : List (Value × (Addr → Value → Option Addr → TS))}, ClausesOk X n hds' l' → wAll X.K i Wout D l' cls d σ' H' →
        wpAny (model X.prog X.w) X.A (handleBy (.ref a) X.env hds') (SP X pins D) X.xe { s' with heap := h3 } := by
      intro hds' l' hk
      induction hk with
      | nil =>
        intro w
        refine wpAny_handleBy_nil ?_
        obtain ⟨_, _, _, oe, vs, T, oT, ts', he, hz, hd, h1, _⟩ := id fl3
        unfold PySem.passOn
        refine wpAny_bind (wpAny_field he hd h1 ?_)
        rw [if_neg (show ¬ ((Value.ref T == Value.none) = true) from by simp)]
        have out : wpAny (model X.prog X.w) X.A (setFlight (.ref a) X.env.frame) (fun _ s4 => wpAny (model X.prog X.w) X.A (throw (.ref a) : Sem Flow) (SP X pins D) X.xe s4) X.xe { s' with heap := h3 } := by
          rw [hf]
          refine HandSPX.setFlight_upZ fl3 fun h4 hh4 up4 => wpAny_throw (tk _ _ ⟨a, B, sI, pins, σ', H', cls, d, rfl, J, nb, (up.trans up3).trans up4, .inr (.inr ?_), na, os, ag, w⟩)
          rw [hs]
          exact hh4
        first
          | exact wpAny_bind (wpAny_pure (wpAny_bind out))
          | exact wpAny_bind out
      | @cons x c ts b₀ suite np p2 hds2 l2 hc hsu _ ih =>
        rintro ⟨b, hb1, yes, no⟩
        refine wpAny_handleBy_cons (codeAny_handlers_test ?_) (by intro q; cases q)
        have LM := PySem.W.exm_one (M := model X.prog X.w) J3.kIn LT hb1
        have name : ∀ {Q : Value → Shared → Prop} {E : Value → Shared → Prop}, Q c { s' with heap := h3 } → wpAny (model X.prog X.w) (X.A.mark (some (.ref a))) (eval (.Name x np) X.env) Q E { s' with heap := h3 } := fun q => by
          obtain ⟨hg, hdbg, hm | ⟨hm, hv, hnn⟩⟩ := hc
          · exact ld_glob (X := X.suite a ((a, oe3) :: (X.pn ++ pins))) S3 hg hm q hdbg
          · exact ld_blt (X := X.suite a ((a, oe3) :: (X.pn ++ pins))) S3 hg hm hv q hnn hdbg
        refine name (LM.here ?_)
        cases b with
        | false => exact ih (no rfl)
        | true =>
          refine codeAny_handlers_suite_as (HandSPX.lands_againZ fl3 fun h4 fl4 up4 => ?_)
          have J4 : Inv X pins σ' H' { s' with heap := h4 } := J.landed nb fl4.1 ((up.trans up3).trans up4) os ag
          obtain ⟨oe4, vs4, he4, hz4, hd4⟩ := fl4.there
          refine store_ok (X := X.suite a ((a, oe4) :: (X.pn ++ pins))) (v := .ref a) (J4.suite he4 hd4 na nL nF) hN hi (.inl hln) rfl (fun s5 S5 => ?_) (.inr hln)
          refine wpAny_mono ((hsu a oe4 cls d (X.pn ++ pins) hz4 ⟨_, hd4⟩).run [] s5 _ H' _ S5 (yes rfl a na)) (fun f s6 end6 => ?_) fun _ _ z => z.elim
          have leave : ∀ {σ6 : List (Option V)} {H6 : Hp} {Q : Shared → Prop}, Inv (X.suite a ((a, oe4) :: (X.pn ++ pins))) [] σ6 H6 s6 → (∀ s7, Inv X pins (σ6.set i none) H6 s7 → Q s7) →
              wpAny (model X.prog X.w) X.A (do bindName X.env n .none; unbindBehindTheSuite X.env n p2) (fun _ s7 => Q s7) X.xe s6 := fun S6 hq => gone_ok (S6.unsuite ok) hN hi hln hq
          match f, end6 with
          | .next, ⟨σ6, H6, S6, q6⟩ => exact leave S6 fun s7 J7 => ⟨_, _, J7, q6⟩
          | .brk, ⟨σ6, H6, S6, q6⟩ => exact leave S6 fun s7 J7 => ⟨_, _, J7, q6⟩
          | .cont, ⟨σ6, H6, S6, q6⟩ => exact leave S6 fun s7 J7 => ⟨_, _, J7, q6⟩
          | .ret u, ⟨v6, σ6, H6, S6, r6, q6⟩ => exact leave S6 fun s7 J7 => ⟨_, _, _, J7, r6, q6⟩
    exact go hh wish
  refine wpAny_mono ((hb _ _ xe' caught PassesOwn.looking).run [] s σ H D (I.toTry _) h) (fun f s1 end1 => ?_) fun e s1 he => he
  match f, end1 with
  | .next, ⟨σ', H', J', q⟩ => exact wpAny_execs_nil ⟨σ', H', J'.ofTry ok, q⟩
  | .brk, ⟨σ', H', J', q⟩ => exact ⟨σ', H', J'.ofTry ok, q⟩
  | .cont, ⟨σ', H', J', q⟩ => exact ⟨σ', H', J'.ofTry ok, q⟩
  | .ret u, ⟨v, σ', H', J', r, q⟩ => exact ⟨v, σ', H', J'.ofTry ok, r, q⟩
end
end Zk

set_option maxHeartbeats 4000000
/-! E5: a family of own errors over one own base class: what is an instance of what; their __init__ from the text. -/
namespace Zk
open PySem PySem.Spec PyProof.Rows L2
open PySem.W (findIn subIn typeIn keepIn excTail kitOne kitAny exmOne clsIn)

/-- the error class called x, at C, straight over the own class at B -/
structure ErrC (K : PySem.W.Frag) (mg : Str → Option Value) (B : Addr) (x : Str) (C : Addr) : Prop where
  own : OwnE K C
  gC : mg x = some (.ref C)
  cd : ∃ cd, clsIn K C = some cd ∧ cd.name = x ∧ cd.mro = [.ref C, .ref B, .type "Exception", .type "BaseException", .type "object"]
/-- the base class -/
structure BaseC (K : PySem.W.Frag) (mg : Str → Option Value) (x : Str) (B : Addr) : Prop where
  gB : mg x = some (.ref B)
  cd : ∃ cd, clsIn K B = some cd ∧ cd.name = x
  ty : typeIn K (.ref B) = some (.type "type")
  ex : subIn K (.ref B) (.type "BaseException") = some true
  sp : PySem.W.specialIn K (.ref B) "__getattribute__" = some (some (.builtin "type.__getattribute__"))
  rd : PySem.W.readsIn K B (.type "type") = true
  fc : PySem.W.findCls K (.ref B) (.type "type") "__init__" = some (.val (.builtin "Exception.__init__"))
section
variable {K : PySem.W.Frag} {mg : Str → Option Value} {B C D : Addr} {x y z : Str}
theorem ErrC.ne (a : ErrC K mg B x C) (b : ErrC K mg B y D) (h : ¬ x = y) : C ≠ D := by
  intro e
  subst e
  obtain ⟨cd, h1, h2, _⟩ := a.cd
  obtain ⟨ce, h3, h4, _⟩ := b.cd
  rw [h1] at h3
  cases h3
  exact h (h2.symm.trans h4)
theorem ErrC.neB (a : ErrC K mg B x C) (b : BaseC K mg y B) (h : ¬ x = y) : C ≠ B := by
  intro e
  subst e
  obtain ⟨cd, h1, h2, _⟩ := a.cd
  obtain ⟨ce, h3, h4⟩ := b.cd
  rw [h1] at h3
  cases h3
  exact h (h2.symm.trans h4)
theorem ErrC.sub (a : ErrC K mg B x C) (v : Value) : subIn K (.ref C) v = some (([.ref C, .ref B, .type "Exception", .type "BaseException", .type "object"] : List Value).contains v) := by
  obtain ⟨cd, h1, _, h3⟩ := a.cd
  show PySem.W.mroIn K C v = _
  unfold PySem.W.mroIn
  rw [h1, Option.bind_some, h3, if_neg (show ¬ (List.isEmpty (Value.ref C :: _) = true) from Bool.false_ne_true)]
theorem ErrC.isCls (a : ErrC K mg B x C) : ((clsIn K C).isSome && typeIn K (.ref C) == some (.type "type")) = true := by
  rw [a.own.isCls, a.own.tyC]
  rfl
theorem BaseC.isCls (b : BaseC K mg x B) : ((clsIn K B).isSome && typeIn K (.ref B) == some (.type "type")) = true := by
  obtain ⟨cd, h, _⟩ := b.cd
  rw [h, b.ty]
  rfl
theorem kit_self (t : Value) : kitOne K t t = some true := by
  unfold kitOne
  rw [if_pos (beq_self_eq_true t)]
theorem kit_else (a : ErrC K mg B x C) (b : ErrC K mg B y D) (o : BaseC K mg z B) (h : ¬ x = y) (hz : ¬ y = z) : kitOne K (.ref C) (.ref D) = some false := by
  have n1 : C ≠ D := a.ne b h
  have n2 : D ≠ B := b.neB o hz
  unfold kitOne
  rw [if_neg (by simpa using n1)]
  unfold PySem.W.kitCls
  simp only [b.isCls, if_true]
  rw [a.sub]
  simp [n1.symm, n2]
theorem kit_base (a : ErrC K mg B x C) (o : BaseC K mg z B) (hz : ¬ x = z) : kitOne K (.ref C) (.ref B) = some true := by
  unfold kitOne
  rw [if_neg (by simpa using a.neB o hz)]
  unfold PySem.W.kitCls
  simp only [o.isCls, if_true]
  rw [a.sub]
  simp
theorem kit_type (a : ErrC K mg B x C) {T : String} {r : Bool} (hT : PySem.W.kitMeta T = true) (hr : ([Value.type "Exception", .type "BaseException", .type "object"].contains (.type T)) = r) : kitOne K (.ref C) (.type T) = some r := by
  unfold kitOne
  rw [if_neg (by simp)]
  unfold PySem.W.kitCls
  simp only [hT, if_true]
  rw [a.sub, List.contains_cons, List.contains_cons, hr, show (Value.type T == Value.ref C) = false from beq_eq_false_iff_ne.mpr (fun z => nomatch z), show (Value.type T == Value.ref B) = false from beq_eq_false_iff_ne.mpr (fun z => nomatch z)]
  rfl
theorem exm_self (a : ErrC K mg B x C) : exmOne K (.ref C) (.ref C) = some true := by
  have h := a.own.exC
  unfold exmOne PySem.W.kitCls
  simp only [h, a.isCls, if_true, beq_self_eq_true]
  rw [a.sub]
  simp
theorem exm_else (a : ErrC K mg B x C) (b : ErrC K mg B y D) (o : BaseC K mg z B) (h : ¬ x = y) (hz : ¬ y = z) : exmOne K (.ref C) (.ref D) = some false := by
  have n1 : C ≠ D := a.ne b h
  have n2 : D ≠ B := b.neB o hz
  have e := b.own.exC
  unfold exmOne PySem.W.kitCls
  simp only [e, b.isCls, if_true, beq_self_eq_true]
  rw [a.sub]
  simp [n1.symm, n2]
theorem exm_base (a : ErrC K mg B x C) (o : BaseC K mg z B) : exmOne K (.ref C) (.ref B) = some true := by
  unfold exmOne PySem.W.kitCls
  simp only [o.ex, o.isCls, if_true, beq_self_eq_true]
  rw [a.sub]
  simp
end

/-- __init__(self, f): the base's __init__ with a text, then self.f = f -/
def spInit (C : Addr) (f : Str) : Sp := fun vs H Q _ => ∃ (a : Addr) (v : V), vs = [.ref a, v] ∧ H a = some (exo a C none) ∧ ∀ dx, H dx = none → dx ≠ a → Q .non (upd (upd H dx (exd dx [(f, v)])) a (exo a C (some dx)))
def spInit0 (C : Addr) : Sp := fun vs H Q _ => ∃ a : Addr, vs = [.ref a] ∧ H a = some (exo a C none) ∧ Q .non H
section
variable {P : Program} {w : World} {K : PySem.W.Frag} {mg : Str → Option Value} {base : Heap} {fI C B : Addr} {fd : FuncData} {st : Stmt} {qual f t : Str} {j : Nat} {p1 p2 p3 p4 p5 p6 p7 p8 p9 p10 : Pos}
theorem ok_init {pl : Env → Sem Bool} (F : Fun K "__init__" qual st fI fd) (S : FnScope ["self", f] ["self", f] (defScope st)) (hv : Vis (defScope st) "self") (hf : Vis (defScope st) f) (hg : (defScope st).names.lookup ("PlayError" : Str) = some .globalImplicit)
    (body : defBody st = [.Expr (.Call (.Attribute (.Name "PlayError" p1) "__init__" p2) [.Name "self" p3, .Constant (.str t) j p4] [] p5) p6, .Assign [.Attribute (.Name "self" p7) f p8] (.Name f p9) p10])
    (hc : ∀ env : Env, eval (.Call (.Attribute (.Name "PlayError" p1) "__init__" p2) [.Name "self" p3, .Constant (.str t) j p4] [] p5) env = (do
      let ov ← eval (.Name "PlayError" p1) env
      standAt p2.atName
      let (f, first) ← holding [ov] (getMethod ov "__init__" (pl env))
      callWith p5 f first (backTo p5 (starEach [.Name "self" p3, .Constant (.str t) j p4] env)) (backToKw p5 (keywordEach [] env))))
    (T : OwnE K C) (hno : findIn K (.ref C) f = some none) (O : BaseC K mg "PlayError" B) (n1 : (f == ("__debug__" : Str)) = false) (n2 : (f == ("__classdict__" : Str)) = false) : FnOk P w K mg base CX0 1 fI fd ["self", f] (spInit C f) := by
  refine F.ok S (fun vs H Q E h => ?_) (fun cdv A outer s H vs Q E hr h => ?_)
  · obtain ⟨a, v, rfl, _⟩ := h
    rfl
  obtain ⟨a, v, rfl, ha, q⟩ := h
  rw [body]
  refine ⟨_, pss_cons (ps_expr (pe_base hg O.gB O.sp O.rd O.fc (pa_cons (pv 0 rfl hv) (pa_cons pe_str pa_nil)) (hc _))) (pss_one (ps_first (pv 0 rfl hv) (pv 1 rfl hf n1 n2))), ?_⟩
  refine ⟨_, rfl, a, C, _, rfl, (by show 1 ≤ 1000; decide), T, ha, _, rfl, _, rfl, a, C, rfl, T, hno, ha, q⟩
theorem ok_init0 {pl : Env → Sem Bool} (F : Fun K "__init__" qual st fI fd) (S : FnScope ["self"] ["self"] (defScope st)) (hv : Vis (defScope st) "self") (hg : (defScope st).names.lookup ("PlayError" : Str) = some .globalImplicit)
    (body : defBody st = [.Expr (.Call (.Attribute (.Name "PlayError" p1) "__init__" p2) [.Name "self" p3] [] p5) p6])
    (hc : ∀ env : Env, eval (.Call (.Attribute (.Name "PlayError" p1) "__init__" p2) [.Name "self" p3] [] p5) env = (do
      let ov ← eval (.Name "PlayError" p1) env
      standAt p2.atName
      let (f, first) ← holding [ov] (getMethod ov "__init__" (pl env))
      callWith p5 f first (backTo p5 (starEach [.Name "self" p3] env)) (backToKw p5 (keywordEach [] env)))) (T : OwnE K C) (O : BaseC K mg "PlayError" B) : FnOk P w K mg base CX0 1 fI fd ["self"] (spInit0 C) := by
  refine F.ok S (fun vs H Q E h => ?_) (fun cdv A outer s H vs Q E hr h => ?_)
  · obtain ⟨a, rfl, _⟩ := h
    rfl
  obtain ⟨a, rfl, ha, q⟩ := h
  rw [body]
  refine ⟨_, pss_one (ps_expr (pe_base hg O.gB O.sp O.rd O.fc (pa_cons (pv 0 rfl hv) pa_nil) (hc _))), ?_⟩
  exact ⟨_, rfl, a, C, _, rfl, by decide, T, ha, q⟩
end
end Zk

set_option maxHeartbeats 1000000
/-! E9: errors with one field, raised of an expression's value, caught and asked; calls by keywords alone that may raise (no text of a program here). -/
namespace Zk
open PySem PySem.Spec PyProof.Rows L2
open PySem.W (findIn subIn typeIn keepIn excTail kitOne kitAny exmOne clsIn)
/-- an error class with one field -/
structure ErrM' (P : Program) (w : World) (K : PySem.W.Frag) (mg : Str → Option Value) (base : Heap) (B : Addr) (x f : Str) (C : Addr) : Prop where
  err : ErrC K mg B x C
  no : findIn K (.ref C) f = some none
  ini : ∃ fI fd, findIn K (.ref C) "__init__" = some (some (.ref fI)) ∧ typeIn K (.ref fI) = some (.type "function") ∧ FnOk P w K mg base CX0 1 fI fd ["self", f] (spInit C f) ∧ KwOk K fd ["self", f] [] 1 0
/-- the dict of an error in flight -/
def XdF (H : Hp) (f : Str) (v : V) (d : Option Addr) : Prop := ∃ a, d = some a ∧ H a = some (.xd [(f, v)])
theorem XdF.same {H H' : Hp} (s : Same H H') {f : Str} {v : V} {d : Option Addr} (h : XdF H f v d) : XdF H' f v d := by
  obtain ⟨a, e, h⟩ := h
  exact ⟨a, e, s _ _ h⟩
theorem OwnE.xf' {K : PySem.W.Frag} {C : Addr} (T : OwnE K C) : XfC K C := by
  refine ⟨T.ga, T.gg, T.exC, ?_⟩
  obtain ⟨cd, hcd, hd, _⟩ := T.cd
  unfold PySem.W.hasDictIn
  rw [hcd]
  exact hd
/-- raise C(e) -/
def tRaE (C : Addr) (f : Str) (te : TE) : L2.St → Hp → XK → Prop := fun σ H Q => te σ H fun v H1 => [v].length = 1 ∧ 1 ≤ 1000 ∧ ∀ a, H1 a = none → spInit C f [.ref a, v] (upd H1 a (exo a C none)) (made C H1 a Q) E0
theorem ra_read {H1 : Hp} {C : Addr} {f : Str} {v : V} {Q : XK} (q : ∀ d H', Same H1 H' → XdF H' f v d → Q (.ref C) d H') : [v].length = 1 ∧ 1 ≤ 1000 ∧ ∀ a, H1 a = none → spInit C f [.ref a, v] (upd H1 a (exo a C none)) (made C H1 a Q) E0 := by
  refine ⟨rfl, by decide, fun a na => ?_⟩
  refine ⟨a, v, rfl, upd_same, fun dx hd ne => ⟨rfl, dx, [(f, v)], upd_same, ?_, (upd_ne ne).symm.trans hd, q (some dx) _ (fun b o e => ?_) ⟨dx, rfl, upd_same⟩⟩⟩
  · rw [upd_ne ne, upd_same]
  · have nb : b ≠ a := fun z => by rw [z, na] at e; cases e
    have nd : b ≠ dx := ne_of_none e ((upd_ne ne).symm.trans hd)
    rw [upd_ne nd, del_ne nb, upd_ne nb, upd_ne nd, upd_ne nb]
    exact e
section
variable {X : Cx} {x y f : Str} {B C : Addr} {p p2 pos kpos : Pos} {i : Nat} {e : Expr} {te : TE}
theorem pmk_E (G : ErrM' X.prog X.w X.K X.mg X.base B x f C) (hr : Room 2 X.A) (hg : Gl X x) (he : PE X e te) (hdb : (x == ("__debug__" : Str)) = false := by decide +kernel) (hs : starEach [e] X.env = (false, eval e X.env) :: starEach [] X.env := by rfl) : L2.PMk X (.Call (.Name x p) [e] [] pos) (tRaE C f te) := by
  obtain ⟨fI, fd, iC, tI, F1, b1⟩ := G.ini
  exact fun pins s σ H Q I h => pmk_err G.err.own iC tI F1 hr b1 hg G.err.gC (pa_cons he pa_nil (hs := hs)) hdb hs rfl pins s σ H Q I h
end
section
variable {X : Cx} {CX : CXT} {k : Nat} {f C : Addr} {fd : FuncData} {ps ks : List Str} {sp : Sp} {E : L2.St → XK} {x m : Str} {p pos apos : Pos} {kws : List Keyword} {tk : TA} {g : List Value → List Value → List Value} {gV : List V → List V → List V}
def tCallKS (sp : Sp) (gV : List V → List V → List V) (E : L2.St → XK) (tk : TA) : TE := fun σ H Q => tk σ H fun zs H2 => sp (gV [] zs) H2 Q (E σ)
theorem pe_callKS (F : FnOk X.prog X.w X.K X.mg X.base CX k f fd ps sp) (hr : Room k X.A) (hg : Gl X x) (hm : X.mg x = some (.ref f)) (hk : PySem.W.keepIn X.K (.ref f) = true) (hb : KBinds X.K fd ps ks g gV) (hx : ∀ σ, PassesAt CX X σ (E σ))
    (hkw : PK X kws tk) (hall : (backToKw pos (keywordEach kws X.env)).all (·.1.isSome) = true := by rfl) (hks : (backToKw pos (keywordEach kws X.env)).filterMap (·.1) = ks := by rfl)
    (hdb : (x == ("__debug__" : Str)) = false := by decide)
    (hpl : ((backTo pos (starEach [] X.env)).any (·.1) || (backToKw pos (keywordEach kws X.env)).any (·.1.isNone)) = false := by rfl) :
    PE X (.Call (.Name x p) [] kws pos) (tCallKS sp gV E tk) := by
  refine ⟨fun pins s σ H Q I h => ?_⟩
  refine wpAny_Call_Name_kw (ld_glob I hg hm ?_ hdb)
  refine PySem.W.callWith_KW0 (h₀ := X.base) I.ok.mod.kin hk hall ?_ hpl
  refine thn (hkw.run pos pins s σ H _ I h) fun ws s2 ⟨zs, H2, I2, rz, q2⟩ => ⟨I2.kIn, ?_⟩
  rw [hks]
  have r2 := hb.rel .nil rz
  have hl : (g [] ws).length = ps.length := by rw [← r2.length]; exact F.len _ _ _ _ q2
  refine wpAny_call (codeAny_mono (F.run X.A X.stack s2 H2 ⟨[], ks.zip ws⟩ (g [] ws) (gV [] zs) Q (E σ) hr I2.env0 (hb.to s2 [] ws I2.kIn hl) r2 q2) fun r s' hq => ?_)
  cases r with
  | error e => exact hx σ pins H2 s2 e s' I2 hq
  | ok fl =>
    cases fl with
    | ret u => exact I2.after hq
    | next => exact False.elim hq
    | brk => exact False.elim hq
    | cont => exact False.elim hq
end
/-! ### isinstance of the exception that is handled -/
section
variable {X : Cx} {x y f : Str} {B C : Addr} {p p2 p3 p4 pos : Pos} {i : Nat} {pp : Addr × Obj} {pins : List (Addr × Obj)} {σ : List (Option V)} {H : Hp} {s : Shared}
theorem pin_kit' (T : OwnE X.K C) (G : ClsG X.K) (I : Inv X pins σ H s) (hp : pp ∈ X.pn) (hc : pp.2.cls = .ref C) (hf : ∃ vs, pp.2.data = .fields vs) (hd : pp.2.dict = none ∨ ∃ dd fs, pp.2.dict = some dd ∧ H dd = some (.xd fs)) :
    ∃ P : Heap → Prop, PySem.W.KitX X.K (.ref pp.1) (.ref C) P ∧ P s.heap := by
  have ho := (I.pin pp (List.mem_append_left _ hp)).1
  obtain ⟨vs, hv⟩ := hf
  have nc : PySem.W.notCls pp.2 := by unfold PySem.W.notCls; rw [hv] <;> rfl
  rcases hd with hd | ⟨dd, fs, hd, hx⟩
  · exact ⟨_, PySem.W.kitx_exc (od := none) T.isCls T.ga T.gg T.exC T.ca G.sp G.tk (T.mro (by decide +kernel)), ⟨ho, hc, nc, by rw [hd]; trivial⟩⟩
  · obtain ⟨mA, hns, _⟩ := (I.hok dd _ hx : ObjOk X.prog X.w H s.heap dd (.xd fs))
    obtain ⟨od, hod, _⟩ := lookIn_ns hns
    exact ⟨_, PySem.W.kitx_exc (od := some od) T.isCls T.ga T.gg T.exC T.ca G.sp G.tk (T.mro (by decide +kernel)), ⟨ho, hc, nc, by rw [hd]; exact hod⟩⟩
def rIsPn (K : PySem.W.Frag) (pp : Addr × Obj) : List V → Hp → VK → Prop := fun xs H Q => ∃ (C : Addr) (c : V) (u : Value) (b : Bool), xs = [.ref pp.1, c] ∧ ClsV c u ∧ OwnE K C ∧ ClsG K ∧ pp.2.cls = .ref C ∧ (∃ vs, pp.2.data = .fields vs) ∧ (pp.2.dict = none ∨ ∃ dd fs, pp.2.dict = some dd ∧ H dd = some (.xd fs)) ∧
  kitOne K (.ref C) u = some b ∧ Q (.bl b) H
theorem call_isPn (hp : pp ∈ X.pn) : CallR X (.builtin "isinstance") (rIsPn X.K pp) := by
  intro pins s σ H xs us Q I r h
  obtain ⟨C, c, u, b, rfl, k, T, G, h1, h2, h3, e, q⟩ := h
  obtain ⟨u1, u2, rfl, r1, r2⟩ := vals2 r
  obtain rfl : u1 = Value.ref pp.1 := r1
  have e2 := k.eq r2
  subst e2
  obtain ⟨P, Z, hz⟩ := pin_kit' T G I hp h1 h2 h3
  exact PySem.W.kia_one Z I.kIn hz e (fun z => nomatch z) fun tk => ⟨.bl b, H, I.tok tk, rfl, q⟩
end
end Zk

set_option maxHeartbeats 1000000
/-! V9: all, any; tuples as targets; own lists: pop, extend; while; built-ins. -/
namespace Zk
open PySem PySem.Spec PyProof.Rows L2 GxR
section
variable {Ta : List Addr} {nm : Str} {X : Cx} {ri : DRI} {g : TG} {rg : DRG} {gs : List Nat} {rt : DRT} {re : DR}
theorem dx_all {c P : Addr} {tg elt iter : Expr} {ifs : List Expr} {scope : Scope} {p pos gpos : Pos} {own : List (Str × Nat)} {k : Nat}
    (hr : Room (k + 1) X.A) (hgl : Gl X "all") (hm : X.mg "all" = none) (TB : TabB X.base X.mg c P) (hT : P ∈ Ta) (hcode : X.env.code = .ref c) (hN : X.N.Nodup) (ok : GxOk X.N X.env.scope scope own) (hi : PI X tg iter (tDI Ta nm ri))
    (hgs : GS Ta nm gs g rg) (hsub : ∀ j ∈ gs, j ∈ own.map (·.2))
    (hg : ∀ (A : Around) (s : Shared) (H : Hp) (C : Addr) (cl : List (Str × Addr)) (code : Value) (fp : List Addr) (pn : List (Addr × Obj)), Room k A → PG (genX X A s H (genEnv scope cl C code builtinsNs X.env) fp pn) tg g)
    (ht : ∀ (A : Around) (s : Shared) (H : Hp) (C : Addr) (cl : List (Str × Addr)) (code : Value) (fp : List Addr) (pn : List (Addr × Obj)), Room k A → PTs (genX X A s H (genEnv scope cl C code builtinsNs X.env) fp pn) ifs (tDT Ta nm rt))
    (he' : ∀ (A : Around) (s : Shared) (H : Hp) (C : Addr) (cl : List (Str × Addr)) (code : Value) (fp : List Addr) (pn : List (Addr × Obj)), Room k A → PE (genX X A s H (genEnv scope cl C code builtinsNs X.env) fp pn) elt (tD Ta nm re))
    (hs : ∀ v, genFold iter X.env v = pure v := by intro _; rfl)
    (he : starEach [.GeneratorExp elt [⟨tg, iter, ifs, 0⟩] scope gpos] X.env = (false, eval (.GeneratorExp elt [⟨tg, iter, ifs, 0⟩] scope gpos) X.env) :: starEach [] X.env := by rfl) :
    PE X (.Call (.Name "all" p) [.GeneratorExp elt [⟨tg, iter, ifs, 0⟩] scope gpos] [] pos) (tD Ta nm (rAll true (own.map (·.2)) ri rg rt re)) := PE.weak (pe_all hr hgl hm TB hcode hN ok hi hg ht he' hs (he := he)) (gx_run hT hgs hsub)
theorem dx_any {c P : Addr} {tg elt iter : Expr} {ifs : List Expr} {scope : Scope} {p pos gpos : Pos} {own : List (Str × Nat)} {k : Nat}
    (hr : Room (k + 1) X.A) (hgl : Gl X "any") (hm : X.mg "any" = none) (TB : TabB X.base X.mg c P) (hT : P ∈ Ta) (hcode : X.env.code = .ref c) (hN : X.N.Nodup) (ok : GxOk X.N X.env.scope scope own) (hi : PI X tg iter (tDI Ta nm ri))
    (hgs : GS Ta nm gs g rg) (hsub : ∀ j ∈ gs, j ∈ own.map (·.2))
    (hg : ∀ (A : Around) (s : Shared) (H : Hp) (C : Addr) (cl : List (Str × Addr)) (code : Value) (fp : List Addr) (pn : List (Addr × Obj)), Room k A → PG (genX X A s H (genEnv scope cl C code builtinsNs X.env) fp pn) tg g)
    (ht : ∀ (A : Around) (s : Shared) (H : Hp) (C : Addr) (cl : List (Str × Addr)) (code : Value) (fp : List Addr) (pn : List (Addr × Obj)), Room k A → PTs (genX X A s H (genEnv scope cl C code builtinsNs X.env) fp pn) ifs (tDT Ta nm rt))
    (he' : ∀ (A : Around) (s : Shared) (H : Hp) (C : Addr) (cl : List (Str × Addr)) (code : Value) (fp : List Addr) (pn : List (Addr × Obj)), Room k A → PE (genX X A s H (genEnv scope cl C code builtinsNs X.env) fp pn) elt (tD Ta nm re))
    (hs : ∀ v, genFold iter X.env v = pure v := by intro _; rfl)
    (he : starEach [.GeneratorExp elt [⟨tg, iter, ifs, 0⟩] scope gpos] X.env = (false, eval (.GeneratorExp elt [⟨tg, iter, ifs, 0⟩] scope gpos) X.env) :: starEach [] X.env := by rfl) :
    PE X (.Call (.Name "any" p) [.GeneratorExp elt [⟨tg, iter, ifs, 0⟩] scope gpos] [] pos) (tD Ta nm (rAll false (own.map (·.2)) ri rg rt re)) := PE.weak (pe_any hr hgl hm TB hcode hN ok hi hg ht he' hs (he := he)) (gx_run hT hgs hsub)
/-! ### tuples as targets -/
abbrev DRGs := List PyData → DEnv → (DEnv → Prop) → Prop
def GSs (Ta : List Addr) (nm : Str) (gs : List Nat) (t : TGs) (rg : DRGs) : Prop := ∀ (C : DC Ta nm) (H : Hp) (σ : L2.St) (E : DEnv) (vs : List V) (ds : List PyData) (q : DEnv → Prop) (Q : L2.St → Hp → Prop), St C H σ E → SdL (msk (Zof C σ E) H) vs ds → rg ds E q →
  (∀ σ' E', St C H σ' E' → Moved C σ E σ' E' gs → q E' → Q σ' H) → t vs σ H Q
theorem Moved.refl {C : DC Ta nm} {σ : L2.St} {E : DEnv} {gs : List Nat} : Moved C σ E σ E gs := ⟨fun _ h => h, fun _ _ => ⟨rfl, rfl⟩⟩
theorem Moved.trans {C : DC Ta nm} {σ σ1 σ2 : L2.St} {E E1 E2 : DEnv} {gs hs : List Nat} (a : Moved C σ E σ1 E1 gs) (b : Moved C σ1 E1 σ2 E2 hs) : Moved C σ E σ2 E2 (gs ++ hs) :=
  ⟨fun x h => a.1 x (b.1 x h), fun vs hv => ⟨(b.2 vs fun j h => hv j (List.mem_append_right _ h)).1.trans (a.2 vs fun j h => hv j (List.mem_append_left _ h)).1, (b.2 vs fun j h => hv j (List.mem_append_right _ h)).2.trans (a.2 vs fun j h => hv j (List.mem_append_left _ h)).2⟩⟩
@[simp] def rgNil : DRGs := fun ds E q => ds = [] ∧ q E
@[simp] def rgCons (rg : DRG) (rgs : DRGs) : DRGs := fun ds E q => ∃ d r, ds = d :: r ∧ rg d E fun E1 => rgs r E1 q
@[simp] def rgTup (n : Nat) (rgs : DRGs) : DRG := fun d E q => ∃ xs, d = .tuple xs ∧ xs.length = n ∧ rgs xs E q
theorem gss_nil : GSs Ta nm [] gNil rgNil := fun C H σ E vs ds q Q s sd ⟨e, hq⟩ k => by
  subst e
  cases sd
  exact ⟨rfl, k σ E s Moved.refl hq⟩
theorem gss_cons {hs : List Nat} {u : TGs} {rgs : DRGs} (a : GS Ta nm gs g rg) (b : GSs Ta nm hs u rgs) : GSs Ta nm (gs ++ hs) (gCons g u) (rgCons rg rgs) := fun C H σ E vs ds q Q s sd ⟨d, r, e, hq⟩ k => by
  subst e
  cases sd with
  | cons sd sds => exact ⟨_, _, rfl, a C H σ E _ d _ _ s sd hq fun σ1 E1 s1 m1 hq => b C H σ1 E1 _ r q Q s1 (sds.sm (msk_less m1.1)) hq fun σ2 E2 s2 m2 hq => k σ2 E2 s2 (m1.trans m2) hq⟩
theorem gs_tup {K : PySem.W.Frag} {u : TGs} {rgs : DRGs} {n : Nat} (b : GSs Ta nm gs u rgs) : GS Ta nm gs (gTup K n u) (rgTup n rgs) := fun C H σ E v d q Q s sd ⟨xs, e, hl, hq⟩ k => by
  subst e
  obtain ⟨a, vs, rfl, ha, sds⟩ := sd_tup sd
  exact ⟨a, vs, rfl, SqT.of (msk_some.mp ha).2, by rw [sds.len]; exact hl, b C H σ E vs xs q Q s sds hq k⟩
@[simp] def rAsg (r : DR) (rg : DRG) : DRS := fun K E => r E fun d => rg d E K.nx
theorem ds_asg {st : Stmt} {r : DR} (h : PS X st (tAsg (tD Ta nm r) g)) (hgs : GS Ta nm gs g rg) : PS X st (tDS Ta nm (rAsg r rg)) := PS.weak h fun D σ H ⟨C, E, K, s, re, h⟩ =>
  ⟨C, E, _, s, h, fun d v H1 g1 k1 sd hq => hgs C H1 σ E v d _ _ (s.step g1 k1) sd hq fun σ' E' s' _ hq => re.nx _ _ _ s' hq⟩
/-! ### own lists: pop, extend -/
theorem own_at {C : DC Ta nm} {H : Hp} {σ : L2.St} {E : DEnv} (s : St C H σ E) {i : Nat} {xs : List PyData} (hx : E[i]? = some (.lst xs)) : ∃ a vs, σ[i]? = some (some (V.ref a)) ∧ H a = some (.lst vs) ∧ SdL (msk (Zof C σ E) H) vs xs ∧ C.He a = none ∧ ¬ C.Z0 a := by
  obtain ⟨o, ho, a, vs, rfl, ha, sd, n0, n1⟩ := s.slot i _ hx
  exact ⟨a, vs, ho, ha, sd, n0, n1⟩
theorem SdL.last {M : Hp} {vs : List V} {xs : List PyData} {d : PyData} (h : SdL M vs (xs ++ [d])) : ∃ ws v, vs = ws ++ [v] ∧ SdL M ws xs ∧ Sd M v d := by
  induction xs generalizing vs with
  | nil =>
    cases h with
    | cons h t =>
      cases t
      exact ⟨[], _, rfl, .nil, h⟩
  | cons x xs ih =>
    cases h with
    | cons h t =>
      obtain ⟨ws, v, rfl, a, b⟩ := ih t
      exact ⟨_ :: ws, v, rfl, .cons h a, b⟩
/-- target = x.pop() -/
@[simp] def rPopD (i : Nat) (rg : DRG) : DRS := fun K E => ∃ xs d, E[i]? = some (.lst (xs ++ [d])) ∧ rg d (E.set i (.lst xs)) K.nx
theorem ds_pop {st : Stmt} {i : Nat} (h : PS X st (tAsg (tBM0 X.K "list" rPop (tVar i)) g)) (hgs : GS Ta nm gs g rg) : PS X st (tDS Ta nm (rPopD i rg)) := PS.weak h fun D σ H ⟨C, E, K, s, re, ⟨xs, d, hx, h⟩⟩ => by
  obtain ⟨a, vs, ho, ha, sd, n0, n1⟩ := own_at s hx
  obtain ⟨ws, v, rfl, sw, sv⟩ := SdL.last sd
  refine ⟨_, ho, .inl ⟨rfl, _, SqL.of ha⟩, a, _, v, rfl, rfl, ha, by simp, ?_⟩
  rw [List.dropLast_concat]
  have za : Zof C σ E a := .inr (.inr ⟨i, _, hx, rfl, ho⟩)
  have s1 := s.write (e' := .lst xs) (o := .lst ws) hx rfl rfl ho n0 (fun ps z => by rw [ha] at z; cases z) ⟨a, ws, rfl, upd_same, sw, n0, n1⟩
  have sm : Sm (msk (Zof C σ E) H) (msk (Zof C σ (E.set i (.lst xs))) (upd H a (.lst ws))) := fun b u e _ => by
    obtain ⟨z1, z2⟩ := msk_some.mp e
    refine msk_some.mpr ⟨fun y => z1 ?_, (upd_ne (fun y : b = a => z1 (by rw [y]; exact za))).trans z2⟩
    rcases y with y | y | ⟨j, u, h1, h2, h3⟩
    · exact .inl y
    · exact .inr (.inl y)
    · rcases get_set h1 with ⟨rfl, rfl⟩ | ⟨ne, h1⟩
      · exact .inr (.inr ⟨i, _, hx, rfl, h3⟩)
      · exact .inr (.inr ⟨j, u, h1, h2, h3⟩)
  exact hgs C _ σ _ v d _ _ s1 (sv.sm sm) h fun σ' E' s' _ hq => re.nx _ _ _ s' hq
/-- x.extend(e) -/
@[simp] def rExt (i : Nat) (r : DR) : DRS := fun K E => ∃ xs, E[i]? = some (.lst xs) ∧ r E fun d => ∃ ys, d = .list ys ∧ xs.length + ys.length ≤ sizeLine ∧ K.nx (E.set i (.lst (xs ++ ys)))
theorem ds_ext {st : Stmt} {i : Nat} {r : DR} (h : PS X st (tDrop (tBM X.K "list" rExtend (tVar i) (tCons (tD Ta nm r) tNil)))) : PS X st (tDS Ta nm (rExt i r)) := PS.weak h fun D σ H ⟨C, E, K, s, re, ⟨xs, hx, h⟩⟩ => by
  obtain ⟨a, vs, ho, ha, sd, n0, n1⟩ := own_at s hx
  refine ⟨_, ho, .inl ⟨rfl, _, SqL.of ha⟩, C, E, _, s, h, fun d v H1 g1 k1 sd1 ⟨ys, ed, hl, hq⟩ => ?_⟩
  subst ed
  have s1 := s.step g1 k1
  obtain ⟨a2, vs2, ho2, ha2, sd2, _, _⟩ := own_at s1 hx
  rw [ho] at ho2
  cases ho2
  obtain ⟨b, ws, rfl, hb, sb⟩ := sd_lst sd1
  refine ⟨a, b, vs2, ws, rfl, rfl, ha2, (msk_some.mp hb).2, by rw [sd2.len, sb.len]; exact hl, ?_⟩
  exact re.nx _ _ _ (s1.write (e' := .lst (xs ++ ys)) hx rfl rfl ho n0 (fun ps z => by rw [ha2] at z; cases z) ⟨a, _, rfl, upd_same, sd2.app sb, n0, n1⟩) hq
/-! ### while -/
def rWhile (rt : DRT) (rb : DRS) : DRS := fun K E => ∃ I : Nat → DEnv → Prop, (∃ m, I m E) ∧ ∀ m E1, I m E1 → rt E1 fun b => if b = true then rb { K with nx := fun E2 => ∃ m', m' < m ∧ I m' E2, ct := fun E2 => ∃ m', m' < m ∧ I m' E2, bk := K.nx } E1 else K.nx E1
theorem ds_while {c : Expr} {body : List Stmt} {pos : Pos} {rb : DRS} (hp : PassesOwn (model X.prog X.w) X.A X.env X.xe) (hc : L2.PT X c (tDT Ta nm rt)) (hb : PSs X body (tDS Ta nm rb)) : PS X (.While c body [] pos) (tDS Ta nm (rWhile rt rb)) := PS.weak (ps_while hp hc hb) fun D σ H ⟨C, E, K, s, re, ⟨I, ⟨m0, i0⟩, step⟩⟩ => by
  refine ⟨fun m σ' H' => ∃ E', St (loopC C H σ E) H' σ' E' ∧ I m E', ⟨m0, E, loop_in s, i0⟩, ?_⟩
  rintro m σ1 H1 ⟨E1, t, hI⟩
  refine ⟨_, E1, _, t, step m E1 hI, fun b H2 g2 k2 hq => ?_⟩
  have t2 := t.step g2 k2
  cases b with
  | false => exact re.nx _ _ _ (loop_out s t2) hq
  | true =>
    refine ⟨fun σ' H' => ∃ m' E', m' < m ∧ St (loopC C H σ E) H' σ' E' ∧ I m' E', fun σ' H' ⟨m', E', lt, t', h'⟩ => ⟨m', lt, E', t', h'⟩, loopC C H σ E, E1, { K with nx := fun E2 => ∃ m', m' < m ∧ I m' E2, ct := fun E2 => ∃ m', m' < m ∧ I m' E2, bk := K.nx }, t2, ⟨fun σ5 H5 E5 t5 ⟨m', lt, h5⟩ => ⟨m', E5, lt, t5, h5⟩, fun v H5 d5 g5 k5 sd5 h5 => re.rt v H5 d5 (loop_go s g5) ⟨k5.tb, k5.dk⟩ sd5 h5, fun σ5 H5 E5 t5 h5 => re.nx _ _ _ (loop_out s t5) h5, fun σ5 H5 E5 t5 ⟨m', lt, h5⟩ => ⟨m', E5, lt, t5, h5⟩⟩, hq⟩
end
end Zk

set_option maxHeartbeats 1000000
/-! V10: a, b = .., ..; values and new lists side by side. -/
namespace Zk
open PySem PySem.Spec PyProof.Rows L2 GxR
section
variable {Ta : List Addr} {nm : Str} {C : DC Ta nm} {H H1 H' : Hp} {σ τ : L2.St} {E F : DEnv}
/-- other slots that hold what slots hold, or data -/
theorem St.re (s : St C H σ E) {σ' : L2.St} {E' : DEnv} (hl : σ'.length = E'.length) (f : Nat → Nat) (hf : ∀ i e, E'[i]? = some e → (∃ v d, e = .d d ∧ σ'[i]? = some (some v) ∧ Sd (msk (Zof C σ E) H) v d) ∨ (E[f i]? = some e ∧ σ'[i]? = σ[f i]?))
    (inj : ∀ i j e e', E'[i]? = some e → e.own = true → E'[j]? = some e' → e'.own = true → f i = f j → i = j) : St C H σ' E' := by
  have zz : ∀ b, Zof C σ' E' b → Zof C σ E b := fun b z => by
    rcases z with z | z | ⟨i, e, h1, h2, h3⟩
    · exact .inl z
    · exact .inr (.inl z)
    · rcases hf i e h1 with ⟨v, d, rfl, _⟩ | ⟨h4, h5⟩
      · cases h2
      · exact .inr (.inr ⟨f i, e, h4, h2, by rw [← h5]; exact h3⟩)
  have less : Sm (msk (Zof C σ E) H) (msk (Zof C σ' E') H) := msk_less zz
  refine ⟨s.wf, s.go, s.ok, hl, fun i e he => ?_, fun i j e e' a ne h1 o1 h2 o2 h3 => ?_⟩
  · rcases hf i e he with ⟨v, d, rfl, hv, sd⟩ | ⟨h4, h5⟩
    · exact ⟨_, hv, v, rfl, sd.sm less⟩
    · obtain ⟨o, ho, z⟩ := s.slot _ e h4
      exact ⟨o, h5.trans ho, z.less less⟩
  · rcases hf i e h1 with ⟨v, d, rfl, _⟩ | ⟨h4, h5⟩
    · cases o1
    rcases hf j e' h2 with ⟨v, d, rfl, _⟩ | ⟨h6, h7⟩
    · cases o2
    rw [h7]
    rw [h5] at h3
    exact s.dist _ _ e e' a (fun y => ne (inj i j e e' h1 o1 h2 o2 y)) h4 o1 h6 o2 h3
theorem get_ins {α : Type} {l r : List α} {x : α} {i : Nat} : (l ++ x :: r)[i]? = if i < l.length then (l ++ r)[i]? else if i = l.length then some x else (l ++ r)[i - 1]? := by
  by_cases h : i < l.length
  · rw [if_pos h, List.getElem?_append_left h, List.getElem?_append_left h]
  · rw [if_neg h]
    by_cases e : i = l.length
    · rw [if_pos e, e, List.getElem?_append_right (Nat.le_refl _), Nat.sub_self]
      rfl
    · rw [if_neg e, List.getElem?_append_right (by omega), List.getElem?_append_right (by omega)]
      have : i - l.length = (i - 1 - l.length) + 1 := by omega
      rw [this]
      rfl
theorem len_eq (s : St C H (σ ++ τ) (E ++ F)) (h : σ.length = E.length) : τ.length = F.length := by
  have := s.len
  rw [List.length_append, List.length_append] at this
  omega
/-- a value beside them -/
theorem St.ins (s : St C H (σ ++ τ) (E ++ F)) (h : σ.length = E.length) {v : V} {d : PyData} (sd : Sd (msk (Zof C (σ ++ τ) (E ++ F)) H) v d) : St C H (σ ++ some v :: τ) (E ++ .d d :: F) := by
  refine s.re (by have := len_eq s h; simp [this, h]) (fun i => if i < E.length then i else i - 1) (fun i e he => ?_) ?_
  · rw [get_ins] at he
    rw [get_ins, h]
    by_cases h1 : i < E.length
    · rw [if_pos h1] at he
      rw [if_pos h1, if_pos h1]
      exact .inr ⟨he, rfl⟩
    · rw [if_neg h1] at he
      rw [if_neg h1, if_neg h1]
      by_cases h2 : i = E.length
      · rw [if_pos h2] at he
        rw [if_pos h2]
        cases he
        exact .inl ⟨v, d, rfl, rfl, sd⟩
      · rw [if_neg h2] at he
        rw [if_neg h2]
        exact .inr ⟨he, rfl⟩
  · intro i j e e' h1 o1 h2 o2 y
    have ni : ∀ (k : Nat) (u : DV), (E ++ DV.d d :: F)[k]? = some u → u.own = true → k ≠ E.length := fun k u hk o z => by
      rw [get_ins, if_neg (by omega), if_pos z] at hk
      cases hk
      cases o
    have a := ni i e h1 o1
    have b := ni j e' h2 o2
    split at y <;> split at y <;> omega
/-- what stands beside them moves in -/
theorem St.mv {v : V} {a : DV} {i : Nat} (s : St C H (σ ++ some v :: τ) (E ++ a :: F)) (h : σ.length = E.length) (hi : i < E.length) : St C H (σ.set i (some v) ++ τ) (E.set i a ++ F) := by
  have hl : τ.length = F.length := by
    have := s.len
    simp at this
    omega
  have look : ∀ {α : Type} (l r : List α) (x : α) (k : Nat), i < l.length → (l.set i x ++ r)[k]? = (l ++ x :: r)[if k = i then l.length else if k < l.length then k else k + 1]? := fun l r x k hi => by
    by_cases e : k = i
    · rw [if_pos e, e, get_ins, if_neg (Nat.lt_irrefl _), if_pos rfl, List.getElem?_append_left (by rw [List.length_set]; exact hi), List.getElem?_set_self hi]
    · rw [if_neg e]
      by_cases hk : k < l.length
      · rw [if_pos hk, get_ins, if_pos hk, List.getElem?_append_left (by rw [List.length_set]; exact hk), List.getElem?_set_ne (Ne.symm e), List.getElem?_append_left hk]
      · rw [if_neg hk, get_ins, if_neg (by omega), if_neg (by omega), List.getElem?_append_right (by rw [List.length_set]; omega), List.length_set, List.getElem?_append_right (by omega)]
        congr 1
  refine s.re (by simp [hl, h]) (fun k => if k = i then E.length else if k < E.length then k else k + 1) (fun k e he => ?_) (fun k j e e' _ _ _ _ y => ?_)
  · rw [look _ _ _ _ hi] at he
    refine .inr ⟨he, ?_⟩
    rw [look _ _ _ _ (by omega), h]
  · split at y <;> split at y <;> (try split at y) <;> (try split at y) <;> omega
/-- a new list beside them -/
theorem lc_ins {p : Addr} {vs : List V} {ds : List PyData} (s : St C H1 σ E) (hp : H1 p = none) (sds : SdL (msk (Zof C σ E) H1) vs ds) (t : St (lcC C (upd H1 p (.lst vs)) σ E p) H' (σ ++ τ) (E ++ F)) : St C H' (σ ++ some (.ref p) :: τ) (E ++ .lst ds :: F) := by
  have nz := s.new hp
  have kept : ∀ b o, H1 b = some o → (∀ ps, o ≠ .tbl ps) → ¬ Own σ E b → ¬ C.Dk b → (lcC C (upd H1 p (.lst vs)) σ E p).He b = some o ∧ H' b = some o := fun b o e n no nd => by
    have e2 : upd H1 p (.lst vs) b = some o := (upd_ne (fun y : b = p => by rw [y, hp] at e; cases e)).trans e
    have e3 : (lcC C (upd H1 p (.lst vs)) σ E p).He b = some o := msk_some.mpr ⟨no, ntb_of e2 n⟩
    exact ⟨e3, t.go b o e3 n nd⟩
  have np : ¬ Own σ E p := fun o => nz (.inr (.inr o))
  have hep : (lcC C (upd H1 p (.lst vs)) σ E p).He p = some (.lst vs) := msk_some.mpr ⟨np, ntb_of upd_same fun _ z => nomatch z⟩
  have hp' : H' p = some (.lst vs) := t.go p _ hep (fun _ z => nomatch z) fun k => nz (.inr (.inl k))
  have heC : ∀ a, (lcC C (upd H1 p (.lst vs)) σ E p).He a = none → C.He a = none := fun a h => by
    cases q : C.He a with
    | none => rfl
    | some o =>
      have n : ∀ ps, o ≠ .tbl ps := fun ps z => s.wf.notb a ps (by rw [q, z])
      by_cases kd : C.Dk a
      · obtain ⟨o2, e2, n2⟩ := s.ok.at kd
        have : (lcC C (upd H1 p (.lst vs)) σ E p).He a = some o2 := msk_some.mpr ⟨(fun z => by rw [(own_none s z).1] at q; cases q), ntb_of ((upd_ne (fun y : a = p => by rw [y, hp] at e2; cases e2)).trans e2) n2⟩
        rw [this] at h
        cases h
      · have e1 := s.go a o q n kd
        rw [(kept a o e1 n (fun z => by rw [(own_none s z).1] at q; cases q) kd).1] at h
        cases h
  have zz : ∀ b, Zof C (σ ++ some (.ref p) :: τ) (E ++ .lst ds :: F) b → Zof (lcC C (upd H1 p (.lst vs)) σ E p) (σ ++ τ) (E ++ F) b := fun b z => by
    rcases z with z | z | ⟨i, e, h1, h2, h3⟩
    · exact .inl (.inl z)
    · exact .inr (.inl z)
    · rw [get_ins] at h1 h3
      rw [s.len] at h3
      by_cases i1 : i < E.length
      · rw [if_pos i1] at h1 h3
        exact .inr (.inr ⟨i, e, h1, h2, h3⟩)
      · rw [if_neg i1] at h1 h3
        by_cases i2 : i = E.length
        · rw [if_pos i2] at h1 h3
          cases h3
          exact .inl (.inr rfl)
        · rw [if_neg i2] at h1 h3
          exact .inr (.inr ⟨i - 1, e, h1, h2, h3⟩)
  have less : Sm (msk (Zof (lcC C (upd H1 p (.lst vs)) σ E p) (σ ++ τ) (E ++ F)) H') (msk (Zof C (σ ++ some (.ref p) :: τ) (E ++ .lst ds :: F)) H') := msk_less zz
  have hl := len_eq t s.len
  have toC : ∀ {o : Option V} {e : DV}, SlotOk (lcC C (upd H1 p (.lst vs)) σ E p) (msk (Zof (lcC C (upd H1 p (.lst vs)) σ E p) (σ ++ τ) (E ++ F)) H') H' o e → SlotOk C (msk (Zof C (σ ++ some (.ref p) :: τ) (E ++ .lst ds :: F)) H') H' o e := fun {o e} z => by
    cases e with
    | d x => obtain ⟨v, e, sd⟩ := z; exact ⟨v, e, sd.sm less⟩
    | deck => exact z
    | no => trivial
    | lst xs => obtain ⟨a, ws, e, h, sd, n0, n1⟩ := z; exact ⟨a, ws, e, h, sd.sm less, heC a n0, fun y => n1 (.inl y)⟩
    | dic xs => obtain ⟨a, ws, e, h, sd, n0, n1⟩ := z; exact ⟨a, ws, e, h, SdKs.sm less sd, heC a n0, fun y => n1 (.inl y)⟩
    | dct xs => obtain ⟨a, ws, e, h, sd, n0, n1⟩ := z; exact ⟨a, ws, e, h, SdKs.sm less sd, heC a n0, fun y => n1 (.inl y)⟩
  refine ⟨s.wf, fun b o e n nd => ?_, ⟨t.ok.tb, t.ok.dk⟩, by simp [hl, s.len], fun i e he => ?_, fun i j e e' a ne h1 o1 h2 o2 h3 => ?_⟩
  · exact (kept b o (s.go b o e n nd) n (fun z => by rw [(own_none s z).1] at e; cases e) nd).2
  · rw [get_ins] at he
    rw [get_ins, s.len]
    by_cases i1 : i < E.length
    · rw [if_pos i1] at he
      rw [if_pos i1]
      obtain ⟨o, ho, z⟩ := t.slot i e he
      exact ⟨o, ho, toC z⟩
    · rw [if_neg i1] at he
      rw [if_neg i1]
      by_cases i2 : i = E.length
      · rw [if_pos i2] at he
        rw [if_pos i2]
        cases he
        refine ⟨_, rfl, p, vs, rfl, hp', ?_, s.he_none hp, fun z => nz (.inl z)⟩
        refine sds.sm fun b o e n => ?_
        obtain ⟨z, e⟩ := msk_some.mp e
        obtain ⟨k1, k2⟩ := kept b o e n (fun y => z (.inr (.inr y))) (fun y => z (.inr (.inl y)))
        refine msk_some.mpr ⟨fun y => ?_, k2⟩
        rcases zz b y with (y | y) | y | y
        · exact z (.inl y)
        · rw [y, hp] at e; cases e
        · exact z (.inr (.inl y))
        · rw [(own_none t y).1] at k1
          cases k1
      · rw [if_neg i2] at he
        rw [if_neg i2]
        obtain ⟨o, ho, z⟩ := t.slot _ e he
        exact ⟨o, ho, toC z⟩
  · have off : ∀ (j : Nat) (u : DV) (a : Addr), (E ++ F)[j]? = some u → u.own = true → (σ ++ τ)[j]? = some (some (V.ref a)) → a ≠ p := fun j u a g1 g2 g3 y => by
      have := (own_none t (⟨j, u, g1, g2, g3⟩ : Own _ _ a)).2
      exact this (.inr y)
    have sp : ∀ (k : Nat) (u : DV) (a : Addr), (E ++ DV.lst ds :: F)[k]? = some u → u.own = true → (σ ++ some (V.ref p) :: τ)[k]? = some (some (V.ref a)) → (k = E.length ∧ a = p) ∨ (k ≠ E.length ∧ (E ++ F)[if k < E.length then k else k - 1]? = some u ∧ (σ ++ τ)[if k < E.length then k else k - 1]? = some (some (V.ref a))) := fun k u a g1 g2 g3 => by
      rw [get_ins] at g1 g3
      rw [s.len] at g3
      by_cases i1 : k < E.length
      · rw [if_pos i1] at g1 g3
        rw [if_pos i1]
        exact .inr ⟨by omega, g1, g3⟩
      · rw [if_neg i1] at g1 g3
        rw [if_neg i1]
        by_cases i2 : k = E.length
        · rw [if_pos i2] at g3
          cases g3
          exact .inl ⟨i2, rfl⟩
        · rw [if_neg i2] at g1 g3
          exact .inr ⟨i2, g1, g3⟩
    intro h4
    rcases sp i e a h1 o1 h3 with ⟨q1, q2⟩ | ⟨q1, q2, q3⟩
    · rcases sp j e' a h2 o2 h4 with ⟨r1, _⟩ | ⟨r1, r2, r3⟩
      · omega
      · exact off _ _ _ r2 o2 r3 q2
    · rcases sp j e' a h2 o2 h4 with ⟨r1, r2⟩ | ⟨r1, r2, r3⟩
      · exact off _ _ _ q2 o1 q3 r2
      · refine t.dist _ _ e e' a (fun y => ne ?_) q2 o1 r2 o2 q3 r3
        split at y <;> split at y <;> omega
end
/-! ### a, b = .., .. -/
section
variable {Ta : List Addr} {nm : Str} {X : Cx} {e : Expr} {es es1 : List Expr} {r : DR} {ra : DRA} {p pos : Pos}
abbrev DRP := DEnv → (List DV → Prop) → Prop
def tPA (Ta : List Addr) (nm : Str) (r : DRP) : TA := fun σ H Q => ∃ (C : DC Ta nm) (E : DEnv) (q : List DV → Prop), St C H σ E ∧ r E q ∧ ∀ ws vs H', vs.length = ws.length → St C H' (σ ++ vs.map some) (E ++ ws) → q ws → Q vs H'
@[simp] def rpNil : DRP := fun _ q => q []
@[simp] def rpV (r : DR) (rs : DRP) : DRP := fun E q => r E fun d => rs E fun ws => q (.d d :: ws)
@[simp] def rpN (ra : DRA) (rs : DRP) : DRP := fun E q => ra E fun ds => ds.length ≤ sizeLine ∧ rs E fun ws => q (.lst ds :: ws)
theorem dp_nil : PA X [] (tPA Ta nm rpNil) := PA.weak pa_nil fun σ H Q ⟨C, E, q, s, hr, k⟩ => k [] [] H rfl (by simpa using s) hr
theorem dp_v {rs : DRP} (h : PE X e (tD Ta nm r)) (h' : PA X es (tPA Ta nm rs)) (hs : starEach (e :: es) X.env = (false, eval e X.env) :: starEach es X.env := by rfl) : PA X (e :: es) (tPA Ta nm (rpV r rs)) := PA.weak (pa_cons h h' hs) fun σ H Q ⟨C, E, q, s, hr, k⟩ =>
  ⟨C, E, _, s, hr, fun d v H1 g1 k1 sd hq => by
    have s1 := s.step g1 k1
    refine ⟨loopC C H1 σ E, E, _, loop_in s1, hq, fun ws vs H2 hl s2 hq => k (.d d :: ws) (v :: vs) H2 (by simp [hl]) ?_ hq⟩
    refine (loop_out s1 s2).ins s1.len (sd.sm fun b o e n => ?_)
    obtain ⟨z, e⟩ := msk_some.mp e
    have he : (loopC C H1 σ E).He b = some o := msk_some.mpr ⟨fun y => z (.inr (.inr y)), ntb_of e n⟩
    refine msk_some.mpr ⟨fun y => ?_, s2.go b o he n fun k => z (.inr (.inl k))⟩
    rcases y with y | y | y
    · exact z (.inl y)
    · exact z (.inr (.inl y))
    · rw [(own_none s2 y).1] at he
      cases he⟩
theorem dp_n {rs : DRP} (h : PA X es1 (tDA Ta nm ra)) (h' : PA X es (tPA Ta nm rs)) (hs : starEach (.List es1 p :: es) X.env = (false, eval (.List es1 p) X.env) :: starEach es X.env := by rfl) : PA X (.List es1 p :: es) (tPA Ta nm (rpN ra rs)) := PA.weak (pa_cons (pe_lst h) h' hs) fun σ H Q ⟨C, E, q, s, hr, k⟩ =>
  ⟨C, E, _, s, hr, fun ds vs1 H1 g1 k1 sds ⟨hl1, hq⟩ => ⟨by rw [sds.len]; exact hl1, fun a ha => by
    have s1 := s.step g1 k1
    exact ⟨lcC C (upd H1 a (.lst vs1)) σ E a, E, _, lc_in s1 (Same.go (same_new ha _)) (k1.same (same_new ha _)) ha upd_same, hq, fun ws vs H2 hl s2 hq => k (.lst ds :: ws) (.ref a :: vs) H2 (by simp [hl]) (lc_ins s1 ha sds s2) hq⟩⟩⟩
@[simp] def rPar2 (i j : Nat) (rs : DRP) : DRS := fun K E => rs E fun ws => ∃ a b, ws = [a, b] ∧ i < E.length ∧ j < E.length ∧ K.nx ((E.set i a).set j b)
theorem ds_par {st : Stmt} {i j : Nat} {rs : DRP} (h : PS X st (tPar i j (tPA Ta nm rs))) : PS X st (tDS Ta nm (rPar2 i j rs)) := PS.weak h fun D σ H ⟨C, E, K, s, re, h⟩ =>
  ⟨C, E, _, s, h, fun ws vs H1 hl s1 ⟨a, b, e, hi, hj, hq⟩ => by
    subst e
    obtain ⟨v, w, rfl⟩ : ∃ v w, vs = [v, w] := by
      match vs, hl with
      | [v, w], _ => exact ⟨v, w, rfl⟩
    refine ⟨v, w, rfl, re.nx _ _ _ ?_ hq⟩
    have m1 := St.mv (τ := [some w]) (F := [b]) s1 s.len hi
    have m2 := St.mv (τ := []) (F := []) m1 (by rw [List.length_set, List.length_set]; exact s.len) (by rw [List.length_set]; exact hj)
    rwa [List.append_nil, List.append_nil] at m2⟩
@[simp] def rPar3 (i j l : Nat) (rs : DRP) : DRS := fun K E => rs E fun ws => ∃ a b c, ws = [a, b, c] ∧ i < E.length ∧ j < E.length ∧ l < E.length ∧ K.nx (((E.set i a).set j b).set l c)
theorem ds_par3 {st : Stmt} {i j l : Nat} {rs : DRP} (h : PS X st (tPar3 i j l (tPA Ta nm rs))) : PS X st (tDS Ta nm (rPar3 i j l rs)) := PS.weak h fun D σ H ⟨C, E, K, s, re, h⟩ =>
  ⟨C, E, _, s, h, fun ws vs H1 hl s1 ⟨a, b, c, e, hi, hj, hk, hq⟩ => by
    subst e
    obtain ⟨v, w, u, rfl⟩ : ∃ v w u, vs = [v, w, u] := by
      match vs, hl with
      | [v, w, u], _ => exact ⟨v, w, u, rfl⟩
    refine ⟨v, w, u, rfl, re.nx _ _ _ ?_ hq⟩
    have m1 := St.mv (τ := [some w, some u]) (F := [b, c]) s1 s.len hi
    have m2 := St.mv (τ := [some u]) (F := [c]) m1 (by rw [List.length_set, List.length_set]; exact s.len) (by rw [List.length_set]; exact hj)
    have m3 := St.mv (τ := []) (F := []) m2 (by rw [List.length_set, List.length_set, List.length_set, List.length_set]; exact s.len) (by rw [List.length_set, List.length_set]; exact hk)
    rwa [List.append_nil, List.append_nil] at m3⟩
end
end Zk

set_option maxHeartbeats 1000000
/-! V11: data compared, bools as numbers, str, max, repr, methods of texts, calls by keyword. -/
namespace Zk
open PySem PySem.Spec PyProof.Rows L2 GxR
/-! ### data == data -/
section
variable {X : Cx} {Ta : List Addr} {nm : Str} {r : DR} {rs : DRA} {e : Expr} {es : List Expr} {pos p : Pos}
def rEqS (n : Bool) : R2 := fun x y H Q => ∃ d e, Sd H x d ∧ Sd H y e ∧ SeqAt.shaped d = true ∧ SeqAt.shaped e = true ∧ Q (.bl (n != PyData.eqv d e)) H
theorem op_eqS (S : SysB X.base) (hu : X.A.units + 64 < cLine) : OpR X (compareOp .Eq) (rEqS false) := by
  intro pins s σ H x y v u Q I rx ry h
  obtain ⟨d, e, hd, he, sd, se, q⟩ := h
  obtain ⟨as, r1, _⟩ := hd.reads I S rx
  obtain ⟨bs, r2, _⟩ := he.reads I S ry
  exact SeqAt.compareEq_shaped r1 r2 sd se hu ⟨.bl _, H, I, rfl, by simpa using q⟩
theorem op_neS (S : SysB X.base) (hu : X.A.units + 64 < cLine) : OpR X (compareOp .NotEq) (rEqS true) := by
  intro pins s σ H x y v u Q I rx ry h
  obtain ⟨d, e, hd, he, sd, se, q⟩ := h
  obtain ⟨as, r1, _⟩ := hd.reads I S rx
  obtain ⟨bs, r2, _⟩ := he.reads I S ry
  exact SeqAt.compareNe_shaped r1 r2 sd se hu ⟨.bl _, H, I, rfl, by simpa using q⟩
@[simp] def gEqS (n : Bool) : DG2 := fun d e q => SeqAt.shaped d = true ∧ SeqAt.shaped e = true ∧ q (.bool (n != PyData.eqv d e))
theorem opS_eqS (n : Bool) : OpS (rEqS n) (gEqS n) := fun Z H x y d e q Q _ hx hy ⟨h1, h2, hq⟩ k => ⟨d, e, hx.un, hy.un, h1, h2, k _ _ H (Same.refl _) (.bl _) hq⟩
/-! ### bools as numbers -/
/-- an int or a bool as a number -/
def numD : PyData → Option Int
  | .int i => some i
  | .bool b => some (if b = true then 1 else 0)
  | _ => none
def numV : V → Option Int
  | .int i => some i
  | .bl b => some (if b = true then 1 else 0)
  | _ => none
theorem num_v {M : Hp} {v : V} {d : PyData} (h : Sd M v d) {n : Int} (e : numD d = some n) : numV v = some n := by cases h <;> first | exact e | cases e
def rNumI (f : Int → Int → Int) : R2 := fun x y H Q => ∃ i j, numV x = some i ∧ y = .int j ∧ Q (.int (f i j)) H
theorem op_addBI : OpR X (binaryOp .Add) (rNumI (· + ·)) := by
  intro pins s σ H x y v u Q I rx ry h
  obtain ⟨i, j, ex, rfl, q⟩ := h
  obtain ⟨t', rfl⟩ := ry
  cases x with
  | int a =>
    cases ex
    obtain ⟨t, rfl⟩ := rx
    exact add_int ⟨.int _, H, I.tok _, ⟨_, rfl⟩, q⟩
  | bl b =>
    cases ex
    cases rx
    exact PySem.IntBool.add_bool_int ⟨.int _, H, I.tok _, ⟨_, rfl⟩, q⟩
  | _ => cases ex
theorem op_subBI : OpR X (binaryOp .Sub) (rNumI (· - ·)) := by
  intro pins s σ H x y v u Q I rx ry h
  obtain ⟨i, j, ex, rfl, q⟩ := h
  obtain ⟨t', rfl⟩ := ry
  cases x with
  | int a =>
    cases ex
    obtain ⟨t, rfl⟩ := rx
    exact sub_int ⟨.int _, H, I.tok _, ⟨_, rfl⟩, q⟩
  | bl b =>
    cases ex
    cases rx
    exact PySem.IntBool.sub_bool_int ⟨.int _, H, I.tok _, ⟨_, rfl⟩, q⟩
  | _ => cases ex
@[simp] def gNumI (f : Int → Int → Int) : DG2 := fun d e q => ∃ i j, numD d = some i ∧ e = .int j ∧ q (.int (f i j))
theorem opS_numI (f : Int → Int → Int) : OpS (rNumI f) (gNumI f) := fun Z H x y d e q Q _ hx hy ⟨i, j, e1, e2, hq⟩ k => by
  subst e2
  exact ⟨i, j, num_v hx e1, sd_int hy, k _ _ H (Same.refl _) (.int _) hq⟩
/-! ### built-ins -/
/-- str(e) -/
def boolStr (b : Bool) : Str := if b then "True" else "False"
theorem call_strB : CallR X (.type "str") (fun xs H Q => (∃ i, xs = [.int i] ∧ i.natAbs.log2 < 1920 ∧ Q (.str (toString i)) H) ∨ (∃ b, xs = [.bl b] ∧ Q (.str (boolStr b)) H) ∨ ∃ a, xs = [.str a] ∧ Q (.str a) H) := by
  intro pins s σ H xs us Q I r h
  rcases h with h | ⟨b, rfl, q⟩ | h
  · exact call_str_int pins s σ H xs us Q I r h
  · obtain ⟨u, rfl, ru⟩ := vals1 r
    cases ru
    exact PySem.P.str_of_bool ⟨.str _, H, I.tok _, ⟨_, rfl⟩, q⟩
  · exact SkE.call_str_str pins s σ H xs us Q I r h
@[simp] def gStr : DGC := fun ds q => (∃ i : Int, ds = [.int i] ∧ i.natAbs.log2 < 1920 ∧ q (.str (toString i))) ∨ (∃ b, ds = [.bool b] ∧ q (.str (boolStr b))) ∨ ∃ a, ds = [.str a] ∧ q (.str a)
theorem sd1 {M : Hp} {xs : List V} {d : PyData} (h : SdL M xs [d]) : ∃ v, xs = [v] ∧ Sd M v d := by
  cases h with
  | cons h t => cases t; exact ⟨_, rfl, h⟩
theorem sd2 {M : Hp} {xs : List V} {d e : PyData} (h : SdL M xs [d, e]) : ∃ v w, xs = [v, w] ∧ Sd M v d ∧ Sd M w e := by
  cases h with
  | cons h t =>
    obtain ⟨w, rfl, h2⟩ := sd1 t
    exact ⟨_, w, rfl, h, h2⟩
theorem callS_str : CallS (fun xs H Q => (∃ i, xs = [.int i] ∧ i.natAbs.log2 < 1920 ∧ Q (.str (toString i)) H) ∨ (∃ b, xs = [.bl b] ∧ Q (.str (boolStr b)) H) ∨ ∃ a, xs = [.str a] ∧ Q (.str a) H) gStr := fun Z H xs ds q Q _ sds h k => by
  rcases h with ⟨i, rfl, hl, hq⟩ | ⟨b, rfl, hq⟩ | ⟨a, rfl, hq⟩
  · obtain ⟨v, rfl, s⟩ := sd1 sds
    exact .inl ⟨i, by rw [sd_int s], hl, k _ _ H (Same.refl _) (.str _) hq⟩
  · obtain ⟨v, rfl, s⟩ := sd1 sds
    exact .inr (.inl ⟨b, by rw [sd_bool s], k _ _ H (Same.refl _) (.str _) hq⟩)
  · obtain ⟨v, rfl, s⟩ := sd1 sds
    exact .inr (.inr ⟨a, by rw [sd_str s], k _ _ H (Same.refl _) (.str _) hq⟩)
/-- max(e, e'), min(e, e') -/
@[simp] def gInt2 (f : Int → Int → Int) : DGC := fun ds q => ∃ i j, ds = [.int i, .int j] ∧ q (.int (f i j))
theorem callS_int2 (f : Int → Int → Int) : CallS (fun xs H Q => ∃ i j, xs = [.int i, .int j] ∧ Q (.int (f i j)) H) (gInt2 f) := fun Z H xs ds q Q _ sds ⟨i, j, e, hq⟩ k => by
  subst e
  obtain ⟨v, w, rfl, s1, s2⟩ := sd2 sds
  exact ⟨i, j, by rw [sd_int s1, sd_int s2], k _ _ H (Same.refl _) (.int _) hq⟩
/-- repr(e) -/
@[simp] def gRepr : DGC := fun ds q => ∃ d, ds = [d] ∧ d.showable = true ∧ d.depth ≤ 100 ∧ d.shown.length ≤ sizeLine ∧ q (.str d.shown)
theorem callS_repr : CallS rRepr gRepr := fun Z H xs ds q Q _ sds ⟨d, e, h1, h2, h3, hq⟩ k => by
  subst e
  obtain ⟨v, rfl, s⟩ := sd1 sds
  exact ⟨v, d, rfl, s.un, h1, h2, h3, k _ _ H (Same.refl _) (.str _) hq⟩
/-! ### methods of texts -/
def MS (r : V → List V → Hp → VK → Prop) (g : Str → List PyData → (PyData → Prop) → Prop) : Prop := ∀ (Z : Addr → Prop) (H : Hp) (xs : List V) (z : Str) (ds : List PyData) (q : PyData → Prop) (Q : VK), (∀ p, H p = none → ¬ Z p) → SdL (msk Z H) xs ds → g z ds q → (∀ d' v H', Same H H' → Sd (msk Z H') v d' → q d' → Q v H') → r (.str z) xs H Q
@[simp] def rMs (g : Str → List PyData → (PyData → Prop) → Prop) (r : DR) (rs : DRA) : DR := fun E q => r E fun d => ∃ z, d = .str z ∧ rs E fun ds => g z ds q
variable {o : Expr} {name : Str} {apos cpos : Pos} {id : String} {rm : V → List V → Hp → VK → Prop} {g : Str → List PyData → (PyData → Prop) → Prop}
theorem dx_ms0 (slot : Slot "str" name id) (hty : typeOf (.builtin id) = pure (.type "method_descriptor")) (hm : MtR X id rm) (ms : MS rm g) (ho : PE X o (tD Ta nm r))
    (hbase : attributeBase o name X.env (eval o X.env) = eval o X.env := by rfl) (hline : (apos.endLine == cpos.line) = true := by rfl) : PE X (.Call (.Attribute o name apos) [] [] cpos) (tD Ta nm (rMs g r raNil)) := PE.weak (pe_bm0 PySem.F.plainAttrs_str slot hty hm ho hbase hline) fun σ H Q ⟨C, E, q, s, hr, k⟩ =>
  ⟨C, E, _, s, hr, fun d v H1 g1 k1 sd ⟨z, ez, hq⟩ => by
    subst ez
    rw [sd_str sd]
    exact ⟨rfl, ms (Zof C σ E) H1 [] z [] q Q (fun p hp => (s.step g1 k1).new hp) .nil hq fun d' v' H' s' sd' hq => k d' v' H' (g1.trans (Same.go s')) (k1.same s') sd' hq⟩⟩
theorem dx_ms (slot : Slot "str" name id) (hty : typeOf (.builtin id) = pure (.type "method_descriptor")) (hm : MtR X id rm) (ms : MS rm g) (ho : PE X o (tD Ta nm r)) (ha : PA X (e :: es) (tDA Ta nm rs))
    (hbase : attributeBase o name X.env (eval o X.env) = eval o X.env := by rfl)
    (hfew : ((backTo cpos (starEach (e :: es) X.env)).all (fun x => !x.1) && (backToKw cpos (keywordEach [] X.env)).all (fun x => x.1.isSome)
      && decide ((e :: es).length + ([] : List Keyword).length + (if ([] : List Keyword).isEmpty then 0 else 1) < 30)) = true := by rfl)
    (hline : (apos.endLine == cpos.line) = true := by rfl) (hs : starEach (e :: es) X.env = (false, eval e X.env) :: starEach es X.env := by rfl) (hplain : (backTo cpos (starEach es X.env)).any (·.1) = false := by rfl) :
    PE X (.Call (.Attribute o name apos) (e :: es) [] cpos) (tD Ta nm (rMs g r rs)) := PE.weak (pe_bm PySem.F.plainAttrs_str slot hty hm ho ha hbase hfew hline hs hplain) fun σ H Q ⟨C, E, q, s, hr, k⟩ =>
  ⟨C, E, _, s, hr, fun d v H1 g1 k1 sd ⟨z, ez, hq⟩ => by
    subst ez
    rw [sd_str sd]
    refine ⟨rfl, C, E, _, s.step g1 k1, hq, fun ds vs H2 g2 k2 sds hq => ?_⟩
    exact ms (Zof C σ E) H2 vs z ds q Q (fun p hp => ((s.step g1 k1).step g2 k2).new hp) sds hq fun d' v' H' s' sd' hq => k d' v' H' ((g1.trans g2).trans (Same.go s')) (k2.same s') sd' hq⟩
@[simp] def gM0 (Cd : Str → Prop) (f : Str → Str) : Str → List PyData → (PyData → Prop) → Prop := fun z ds q => ds = [] ∧ Cd z ∧ q (.str (f z))
theorem ms_0 (Cd : Str → Prop) (f : Str → Str) : MS (fun x xs H Q => ∃ a, x = .str a ∧ xs = [] ∧ Cd a ∧ Q (.str (f a)) H) (gM0 Cd f) := fun Z H xs z ds q Q _ sds ⟨e, hc, hq⟩ k => by
  subst e
  cases sds
  exact ⟨z, rfl, rfl, hc, k _ _ H (Same.refl _) (.str _) hq⟩
/-- sep.join(e) -/
@[simp] def gJoin : Str → List PyData → (PyData → Prop) → Prop := fun a ds q => ∃ (xs : List PyData) (ys : List Str), (ds = [.list xs] ∨ ds = [.tuple xs]) ∧ xs = ys.map PyData.str ∧ (ys.map (·.length)).sum + ys.length * a.length ≤ 16777216 ∧ q (.str (Txt.join a ys))
theorem sd_strs {M : Hp} : ∀ {ys : List Str} {vs : List V}, SdL M vs (ys.map PyData.str) → vs = ys.map V.str
  | [], _, h => by cases h; rfl
  | y :: ys, _, h => by
    cases h with
    | cons h t => rw [sd_str h, sd_strs t]; rfl
theorem ms_join {K : PySem.W.Frag} : MS (fun x xs H Q => ∃ a p, ∃ ys : List Str, x = .str a ∧ xs = [.ref p] ∧ (SqL K H p (ys.map V.str) ∨ SqT K H p (ys.map V.str)) ∧
    (ys.map (·.length)).sum + ys.length * a.length ≤ 16777216 ∧ Q (.str (Txt.join a ys)) H) gJoin := fun Z H xs z ds q Q _ sds ⟨xs', ys, hd, ex, hl, hq⟩ k => by
  subst ex
  rcases hd with rfl | rfl
  · obtain ⟨v, rfl, s⟩ := sd1 sds
    obtain ⟨a, vs, rfl, ha, sv⟩ := sd_lst s
    have ev := sd_strs sv
    subst ev
    exact ⟨z, a, ys, rfl, rfl, .inl (SqL.of (msk_some.mp ha).2), hl, k _ _ H (Same.refl _) (.str _) hq⟩
  · obtain ⟨v, rfl, s⟩ := sd1 sds
    obtain ⟨a, vs, rfl, ha, sv⟩ := sd_tup s
    have ev := sd_strs sv
    subst ev
    exact ⟨z, a, ys, rfl, rfl, .inr (SqT.of (msk_some.mp ha).2), hl, k _ _ H (Same.refl _) (.str _) hq⟩
/-! ### calls by keyword alone -/
theorem PKx.weak {t t' : TA} {kws : List Keyword} (h : PK X kws t) (k : ∀ σ H Q, t' σ H Q → t σ H Q) : PK X kws t' := ⟨fun pos pins s σ H Q I w => h.run pos pins s σ H Q I (k σ H Q w)⟩
variable {kws : List Keyword} {nk : Option Str} {kpos : Pos}
theorem dk_nil : PK X [] (tDA Ta nm raNil) := PKx.weak pk_nil fun σ H Q ⟨C, E, q, s, hr, k⟩ => k [] [] H Go.refl s.ok .nil hr
theorem dk_cons (h : PE X e (tD Ta nm r)) (h' : PK X kws (tDA Ta nm rs)) : PK X (⟨nk, e, kpos⟩ :: kws) (tDA Ta nm (raCons r rs)) := PKx.weak (pk_cons h h') fun σ H Q ⟨C, E, q, s, hr, k⟩ =>
  ⟨C, E, _, s, hr, fun d v H1 g1 k1 sd hq => ⟨C, E, _, s.step g1 k1, hq, fun ds vs H2 g2 k2 sds hq => k (d :: ds) (v :: vs) H2 (g1.trans g2) k2 (.cons (sd.sm (Go.zof g2)) sds) hq⟩⟩
theorem pe_callKw {CX : CXT} {k : Nat} {f : Addr} {fd : FuncData} {ps ks : List Str} {sp : Sp} {E : XK} {x : Str} {tk : TA} {g : List Value → List Value → List Value} {gV : List V → List V → List V}
    (F : FnOk X.prog X.w X.K X.mg X.base CX k f fd ps sp) (hr : Room k X.A) (hg : Gl X x) (hm : X.mg x = some (.ref f)) (hk : PySem.W.keepIn X.K (.ref f) = true) (hb : KBinds X.K fd ps ks g gV) (hx : Passes CX X E)
    (hkw : PK X kws tk) (hall : (backToKw pos (keywordEach kws X.env)).all (·.1.isSome) = true := by rfl) (hks : (backToKw pos (keywordEach kws X.env)).filterMap (·.1) = ks := by rfl)
    (hdb : (x == ("__debug__" : Str)) = false := by decide +kernel)
    (hpl : ((backTo pos (starEach [] X.env)).any (·.1) || (backToKw pos (keywordEach kws X.env)).any (·.1.isNone)) = false := by rfl) :
    PE X (.Call (.Name x p) [] kws pos) (tCallK sp gV E tNil tk) := by
  refine ⟨fun pins s σ H Q I h => ?_⟩
  refine wpAny_Call_Name_kw (ld_glob I hg hm ?_ hdb)
  refine PySem.W.callWith_KW0 (h₀ := X.base) I.ok.mod.kin hk hall ?_ hpl
  refine thn (hkw.run pos pins s σ H _ I h) fun ws s2 ⟨zs, H2, I2, rz, q2⟩ => ⟨I2.kIn, ?_⟩
  rw [hks]
  exact run_fnk F hr hb hx I2 (us := []) .nil rz q2
/-- the arguments' order, for values and for data -/
def KData (gV : List V → List V → List V) (gD : List PyData → List PyData) : Prop := ∀ (M : Hp) (vs : List V) (ds : List PyData), SdL M vs ds → SdL M (gV [] vs) (gD ds)
@[simp] def rFnW (gD : List PyData → List PyData) (R : DFn) (rs : DRA) : DR := fun E q => rs E fun ds => R (gD ds) q
theorem dx_callW {k : Nat} {f : Addr} {fd : FuncData} {ps ks : List Str} {R : DFn} {x : Str} {g : List Value → List Value → List Value} {gV : List V → List V → List V} {gD : List PyData → List PyData}
    (F : FnOk X.prog X.w X.K X.mg X.base CX0 k f fd ps (spD' Ta R)) (hr : Room k X.A) (hg : Gl X x) (hm : X.mg x = some (.ref f)) (hk : PySem.W.keepIn X.K (.ref f) = true) (hb : KBinds X.K fd ps ks g gV) (kd : KData gV gD)
    (hkw : PK X kws (tDA Ta nm rs)) (hall : (backToKw pos (keywordEach kws X.env)).all (·.1.isSome) = true := by rfl) (hks : (backToKw pos (keywordEach kws X.env)).filterMap (·.1) = ks := by rfl)
    (hdb : (x == ("__debug__" : Str)) = false := by decide +kernel)
    (hpl : ((backTo pos (starEach [] X.env)).any (·.1) || (backToKw pos (keywordEach kws X.env)).any (·.1.isNone)) = false := by rfl) :
    PE X (.Call (.Name x p) [] kws pos) (tD Ta nm (rFnW gD R rs)) := PE.weak (pe_callKw F hr hg hm hk hb (E := E0) pass0 hkw hall hks hdb hpl) fun σ H Q ⟨C, E, q, st, hr, k⟩ =>
  ⟨C, E, _, st, hr, fun ds vs H1 g1 k1 sds hq => ⟨Zof C σ E, gD ds, q, fun b hb => (st.step g1 k1).zin hb, kd _ _ _ sds, k1.tb, hq, fun d v H2 s2 t2 sd hq => k d v H2 (g1.trans (Sm.go s2)) (k1.sm s2 t2) sd hq⟩⟩
end
end Zk

set_option maxHeartbeats 1000000
/-! V12: the deck under a key of its own; what drawing promises. -/
namespace Zk
open PySem PySem.Spec PyProof.Rows L2 GxR
def deckN (nm : Str) (lf : Addr) (m d : Int) : List (Key × V) := [(.inr nm, .ref lf), (.inr ("mixed" : Str), .int m), (.inr ("draws" : Str), .int d)]
/-- the key is neither of the other two -/
structure KeyOk (nm : Str) : Prop where
  m : ¬ (Sum.inr nm : Key) = Sum.inr ("mixed" : Str)
  d : ¬ (Sum.inr nm : Key) = Sum.inr ("draws" : Str)
section
variable {nm : Str} {lf dk p a b : Addr} {m d x : Int} {H H0 H' : Hp} {o : HO}
theorem deckN_left : valV (deckN nm lf m d) (.inr nm) = some (.ref lf) := valV_pos rfl
theorem deckN_mixed (k : KeyOk nm) : valV (deckN nm lf m d) (.inr ("mixed" : Str)) = some (.int m) := (valV_neg k.m).trans (valV_pos rfl)
theorem deckN_draws (k : KeyOk nm) : valV (deckN nm lf m d) (.inr ("draws" : Str)) = some (.int d) := (valV_neg k.d).trans ((valV_neg k_md).trans (valV_pos rfl))
theorem putN_mixed (k : KeyOk nm) : putK (deckN nm lf m d) (.inr ("mixed" : Str)) (.int x) = deckN nm lf x d := by
  have h : ((deckN nm lf m d).any fun kv => decide (kv.1 = Sum.inr ("mixed" : Str))) = true := by
    rw [valV_any, deckN_mixed k]
    rfl
  unfold putK
  rw [if_pos h]
  unfold deckN
  simp only [List.map_cons, List.map_nil, if_neg k.m, if_neg k_dm, if_true]
theorem putN_draws (k : KeyOk nm) : putK (deckN nm lf m d) (.inr ("draws" : Str)) (.int x) = deckN nm lf m x := by
  have h : ((deckN nm lf m d).any fun kv => decide (kv.1 = Sum.inr ("draws" : Str))) = true := by
    rw [valV_any, deckN_draws k]
    rfl
  unfold putK
  rw [if_pos h]
  unfold deckN
  simp only [List.map_cons, List.map_nil, if_neg k.d, if_neg k_md, if_true]
theorem mergeN (k : KeyOk nm) : mergeK [] (deckN nm lf m d) = deckN nm lf m d := by
  have h1 : putK ([] : List (Key × V)) (.inr nm) (.ref lf) = [(.inr nm, .ref lf)] := rfl
  have h2 : putK [((Sum.inr nm : Key), V.ref lf)] (.inr ("mixed" : Str)) (.int m) = [((Sum.inr nm : Key), V.ref lf), ((Sum.inr ("mixed" : Str) : Key), V.int m)] := by
    unfold putK
    rw [valV_any, valV_neg k.m]
    rfl
  have h3 : putK [((Sum.inr nm : Key), V.ref lf), ((Sum.inr ("mixed" : Str) : Key), V.int m)] (.inr ("draws" : Str)) (.int d) = deckN nm lf m d := by
    unfold putK
    rw [valV_any, valV_neg k.d, valV_neg k_md]
    rfl
  have e : mergeK [] (deckN nm lf m d) = putK (putK (putK ([] : List (Key × V)) (.inr nm) (.ref lf)) (.inr ("mixed" : Str)) (.int m)) (.inr ("draws" : Str)) (.int d) := rfl
  rw [e, h1, h2, h3]
theorem getN_draws (k : KeyOk nm) (h : H dk = some (.dK (deckN nm lf m d))) : DGet H dk (.str "draws") (some (.int d)) := by
  have z := DGet.k (k := .inr ("draws" : Str)) h
  rw [deckN_draws k] at z
  exact z
theorem getN_mixed (k : KeyOk nm) (h : H dk = some (.dK (deckN nm lf m d))) : DGet H dk (.str "mixed") (some (.int m)) := by
  have z := DGet.k (k := .inr ("mixed" : Str)) h
  rw [deckN_mixed k] at z
  exact z
theorem getN_left (h : H dk = some (.dK (deckN nm lf m d))) : DGet H dk (.str nm) (some (.ref lf)) := by
  have z := DGet.k (k := .inr nm) h
  rw [deckN_left] at z
  exact z
theorem dputN_draws (k : KeyOk nm) (h : H dk = some (.dK (deckN nm lf m d))) : DPut H dk (.str "draws") (.int x) (upd H dk (.dK (deckN nm lf m x))) := by
  have z := DPut.k (k := .inr ("draws" : Str)) (v := .int x) h (by show 3 < sizeLine; decide)
  rw [putN_draws k] at z
  exact z
theorem dputN_mixed (k : KeyOk nm) (h : H dk = some (.dK (deckN nm lf m d))) : DPut H dk (.str "mixed") (.int x) (upd H dk (.dK (deckN nm lf x d))) := by
  have z := DPut.k (k := .inr ("mixed" : Str)) (v := .int x) h (by show 3 < sizeLine; decide)
  rw [putN_mixed k] at z
  exact z
theorem cut63 {xs : List V} (h : xs.length ≤ 63) : cutV xs none (some 63) = xs := by
  have e : HT.sIx xs.length xs.length (some 63) = xs.length := (HT.sIx_nat xs.length xs.length 63).trans (by omega)
  unfold cutV
  rw [HT.sIx_none, e]
  simp
theorem int_at {ns : List Int} {i : Nat} {x : V} (h : (ns.map V.int)[i]? = some x) : ∃ u, x = .int u := by
  rw [List.getElem?_map] at h
  cases e : ns[i]? with
  | none => rw [e] at h; cases h
  | some u => rw [e] at h; exact ⟨u, (Option.some.inj h).symm⟩
theorem last_int {ns : List Int} (h : ns ≠ []) : (ns.map V.int)[(ns.map V.int).length - 1]? = some (.int (ns.getLast h)) := by
  rw [List.length_map, List.getElem?_map, List.getElem?_eq_getElem (by have := List.length_pos_iff.mpr h; omega)]
  rw [List.getLast_eq_getElem]
  rfl
def OnlyD (dk lf : Addr) (H H' : Hp) : Prop := ∀ b o, b ≠ dk → b ≠ lf → H b = some o → H' b = some o
theorem OnlyD.refl : OnlyD dk lf H H := fun _ _ _ _ e => e
theorem OnlyD.at_d (h : OnlyD dk lf H H') : OnlyD dk lf H (upd H' dk o) := fun b u n1 n2 e => (upd_ne n1).trans (h b u n1 n2 e)
theorem OnlyD.at_l (h : OnlyD dk lf H H') : OnlyD dk lf H (upd H' lf o) := fun b u n1 n2 e => (upd_ne n2).trans (h b u n1 n2 e)
theorem OnlyD.new (h : OnlyD dk lf H H') (hp : H' p = none) : OnlyD dk lf H (upd H' p o) := fun b u n1 n2 e => same_new hp o _ _ (h b u n1 n2 e)
/-- an if, and then what both of its ways come to -/
theorem seqIf {c : TT} {t1 t2 ts : TS} {D : Ends} {σ : List (Option V)} {H : Hp} (I : List (Option V) → Hp → Prop) (hI : ∀ σ H, I σ H → ts D σ H) (h : (∀ σ H, I σ H → ts D σ H) → tIfS c t1 t2 { D with nx := ts D } σ H) : tSeq (tIfS c t1 t2) ts D σ H := h hI
/-- a new deck -/
def spNewDeck (K : PySem.W.Frag) (nm : Str) : Sp := fun vs H Q _ => ∃ (a : Addr) (ns : List Int), vs = [.ref a] ∧ SqL K H a (ns.map V.int) ∧ ns.length ≤ 63 ∧ ∀ p lf H', Same H H' → H p = none → H lf = none → DeckOk nm H' p lf → Q (.ref p) H'
/-- _law_draw(deck, many): below many -/
@[simp] def RDraw : DFn := fun ds q => ∃ m : Int, ds = [.int m] ∧ 0 < m ∧ m < 2 ^ 60 ∧ ∀ r, 0 ≤ r → r < m → q (.int r)
/-- _law_pick(deck, some): one of them -/
def RPick : DFn := fun ds q => (∃ xs, (ds = [.list xs] ∨ ds = [.tuple xs]) ∧ 0 < xs.length ∧ xs.length ≤ sizeLine ∧ ∀ d ∈ xs, q d) ∨ ∃ z : Str, ds = [.str z] ∧ 0 < z.length ∧ z.length ≤ sizeLine ∧ ∀ c ∈ z.cps.toList, q (.str ⟨#[c]⟩)
theorem tb_only {Ta : List Addr} {l1 l2 : HO} (t : Tb Ta H) (h : OnlyD dk lf H H') (h1 : H dk = some l1) (h2 : H lf = some l2) (n1 : ∀ ps, l1 ≠ .tbl ps) (n2 : ∀ ps, l2 ≠ .tbl ps) : Tb Ta H' := fun P hP => by
  obtain ⟨ps, e, z⟩ := t P hP
  exact ⟨ps, h P _ (fun y => n1 ps (by rw [y, h1] at e; exact Option.some.inj e)) (fun y => n2 ps (by rw [y, h2] at e; exact Option.some.inj e)) e, z⟩
/-- a def that stands in the text, and how it is called -/
structure CallD (P : Program) (w : World) (K : PySem.W.Frag) (mg : Str → Option Value) (base : Heap) (x : Str) (k : Nat) (ps : List Str) (sp : Sp) : Prop where
  ex : ∃ f fd, FnOk P w K mg base CX0 k f fd ps sp ∧ Binds K fd ps [] ∧ PySem.W.keepIn K (.ref f) = true ∧ mg x = some (.ref f)
theorem CallD.mk' {P : Program} {w : World} {K : PySem.W.Frag} {mg : Str → Option Value} {base : Heap} {f : Addr} {fd : FuncData} {x : Str} {k : Nat} {ps : List Str} {sp : Sp} (G : FnOk P w K mg base CX0 k f fd ps sp) (b : Binds K fd ps []) (kp : PySem.W.keepIn K (.ref f) = true) (e : mg x = some (.ref f)) : CallD P w K mg base x k ps sp := ⟨f, fd, G, b, kp, e⟩
end
end Zk

set_option maxHeartbeats 4000000
/-! A0: the law's deck, draw, pick. -/
namespace Zk
open PySem PySem.Spec PyProof.Rows L2 GxR
def top (i : Nat) : Stmt := PySem.Challenge.pw_narrowplay_k51_depths_bound_all_standing.main.body.getD i (.Pass ⟨0, 0, 0, 0⟩)
abbrev kn : Str := "left"
theorem kn_ok : KeyOk kn := ⟨by decide +kernel, by decide +kernel⟩
abbrev sDeck : Stmt := top 37
abbrev sDraw : Stmt := top 38
abbrev sPick : Stmt := top 39
/-- what the built-ins' names are -/
structure Blt (mg : Str → Option Value) : Prop where
  Exception : mg "Exception" = none
  all : mg "all" = none
  bool : mg "bool" = none
  dict : mg "dict" = none
  int : mg "int" = none
  isinstance : mg "isinstance" = none
  len : mg "len" = none
  list : mg "list" = none
  max : mg "max" = none
  min : mg "min" = none
  range : mg "range" = none
  repr : mg "repr" = none
  sorted : mg "sorted" = none
  str : mg "str" = none
  sum : mg "sum" = none
  tuple : mg "tuple" = none
section
variable {P : Program} {w : World} {K : PySem.W.Frag} {mg : Str → Option Value} {base : Heap} {f : Addr} {fd : FuncData} {Ta : List Addr}
theorem scDeck : FnScope ["script", "mixed", "cell"] ["script"] (defScope sDeck) := ⟨rfl, rfl, rfl, by decide +kernel, rfl, by decide +kernel, by decide +kernel⟩
theorem ok_deck (F : Fun K "_law_deck" "_law_deck" sDeck f fd) (T : Blt mg) : FnOk P w K mg base CX0 1 f fd ["script"] (spNewDeck K kn) := by
  refine F.ok scDeck (fun vs H Q E h => ?_) (fun cdv A outer s H vs Q E hr h => ?_)
  · obtain ⟨a, ns, rfl, _⟩ := h
    rfl
  obtain ⟨a, ns, rfl, hS, hl, q⟩ := h
  refine ⟨_, pss_cons (ps_set (i := 1) scDeck.nd rfl (Or.inl rfl) pe_int)
    (pss_cons (ps_for PassesOwn.never rfl (pi_list (pe_slice sl_list (pv 0) po_none (po_some pe_int))) (pg_name (i := 2) scDeck.nd rfl (Or.inl rfl))
      (pss_one (ps_set (i := 1) scDeck.nd rfl (Or.inl rfl) (pe_op op_mod (pe_callTy call_int1 (by rfl) T.int (by decide +kernel) (pa_cons
        (pe_op op_add (pe_op op_add (pe_op op_mul (pv 1) pe_int) (pe_op op_mod (pe_callTy call_int1 (by rfl) T.int (by decide +kernel) (pa_cons (pv 2) pa_nil)) pe_int)) pe_int) pa_nil)) pe_int))))
    (pss_one (ps_ret (pe_disp (pps_cons pe_str (pe_revL (pe_callTy call_list_of (by rfl) T.list (by decide +kernel) (pa_cons (pe_slice sl_list (pv 0) po_none (po_some pe_int)) pa_nil)))
      (pps_cons pe_str (pv 1) (pps_cons pe_str pe_int pps_nil))) rfl rfl (by intro z; cases z) (by decide))))), ?_⟩
  have hcut : cutV (ns.map V.int) none (some 63) = ns.map V.int := cut63 (by simpa using hl)
  refine ⟨_, rfl, 63, rfl, a, _, rfl, hS, fun p hp => ?_⟩
  rw [hcut]
  refine ⟨p, rfl, ⟨_, SqL.of upd_same⟩, for_list (K := K) (a := p) (xs := ns.map V.int) (fun _ σ' H' => ∃ (m : Int) (v : Option V), σ' = [some (.ref a), some (.int m), v] ∧ 0 ≤ m ∧ m < 2 ^ 31 ∧ H' = upd H p (.lst (ns.map V.int)))
    ⟨15365051, none, rfl, by decide, by decide, rfl⟩ (fun i σ' H' _ ⟨_, _, _, _, _, e⟩ => by rw [e]; exact SqL.of upd_same) ?_ ?_⟩
  · rintro i x σ' H' hx ⟨m, v, rfl, m0, m1, rfl⟩
    obtain ⟨u, rfl⟩ := int_at hx
    refine ⟨_, rfl, _, _, rfl, rfl, .inr ⟨by decide, by decide⟩, _, rfl, .inl ⟨_, rfl, _, _, rfl, rfl, (by show (0 : Int) < 2147483629; decide), _, _, rfl, rfl, _, _, rfl, rfl, .inl ⟨_, rfl, _, _, rfl, rfl, (by show (0 : Int) < 2147483563; decide), ?_⟩⟩⟩
    refine ⟨_, _, rfl, Int.emod_nonneg _ (by decide), ?_, rfl⟩
    have := Int.emod_lt_of_pos (m * 48271 + u % 2147483629 + 51) (show (0 : Int) < 2147483563 by decide)
    omega
  · rintro σ' H' ⟨m, v, rfl, m0, m1, rfl⟩
    have s1 : Same H (upd H p (.lst (ns.map V.int))) := same_new hp _
    refine fun d hd => ⟨_, rfl, 63, rfl, a, _, rfl, (s1.trans (same_new hd _)).seq hS, fun p2 hp2 => ?_⟩
    rw [hcut]
    refine ⟨p2, _, rfl, .inl (SqL.of upd_same), fun p3 hp3 => ⟨p3, _, rfl, SqL.of upd_same, fun p4 hp4 => ⟨_, rfl, ?_⟩⟩⟩
    have nd2 : d ≠ p2 := ne_of_none upd_same hp2
    have nd3 : d ≠ p3 := ne_of_none (same_new hp2 _ _ _ upd_same) hp3
    have nd4 : d ≠ p4 := ne_of_none (same_new hp3 _ _ _ (same_new hp2 _ _ _ upd_same)) hp4
    refine ⟨?_, deckN kn p4 m 0, rfl, (by show 3 ≤ 15; decide), ?_⟩
    · rw [upd_ne nd4, upd_ne nd3, upd_ne nd2, upd_same]
    rw [show mergeK [] (deckN kn p4 m 0) = deckN kn p4 m 0 from mergeN kn_ok]
    have s2 := s1.trans ((same_new hd (.dK [])).trans ((same_new hp2 (.lst (ns.map V.int))).trans ((same_new hp3 (.lst (ns.map V.int))).trans (same_new hp4 (.lst (ns.map V.int).reverse)))))
    have f4 : H p4 = none := (s1.trans ((same_new hd (.dK [])).trans ((same_new hp2 (.lst (ns.map V.int))).trans (same_new hp3 (.lst (ns.map V.int)))))).free hp4
    refine q d p4 _ (same_out s2 (s1.free hd) _) (s1.free hd) f4 ⟨ns.reverse, m, 0, upd_same, ?_, by simpa using hl, m0, m1⟩
    rw [upd_ne nd4.symm, upd_same, List.map_reverse]
theorem scDraw : FnScope ["deck", "many", "figure", "cell"] ["deck", "many"] (defScope sDraw) := ⟨rfl, rfl, rfl, by decide +kernel, rfl, by decide +kernel, by decide +kernel⟩
theorem ok_draw (F : Fun K "_law_draw" "_law_draw" sDraw f fd) (T : Blt mg) : FnOk P w K mg base CX0 1 f fd ["deck", "many"] (spDk Ta kn RDraw) := by
  refine F.ok scDraw (fun vs H Q E h => ?_) (fun cdv A outer s H vs Q E hr h => ?_)
  · obtain ⟨Z, dk, lf, ws, ds, q, rfl, hz, z1, z2, dok, sds, tb, ⟨m, rfl, _⟩, kk⟩ := h
    obtain ⟨v, rfl, _⟩ := sd1 sds
    rfl
  obtain ⟨Z, dk, lf, ws, ds, q, rfl, hz, z1, z2, ⟨left, mixed, draws, h4, h5, h6, h7, h8⟩, sds, tb, ⟨m, rfl, m0, m1, hq⟩, kk⟩ := h
  obtain ⟨v, rfl, sv⟩ := sd1 sds
  obtain rfl := sd_int sv
  have hu := hu_of hr
  have h4 : H dk = some (.dK (deckN kn lf mixed draws)) := h4
  have done : ∀ (r : Int) (H' : Hp) (left' : List Int) (m' d' : Int), 0 ≤ r → r < m → OnlyD dk lf H H' → H' dk = some (.dK (deckN kn lf m' d')) → H' lf = some (.lst (left'.map V.int)) → left'.length ≤ 63 → 0 ≤ m' → m' < 2 ^ 31 → Q (.int r) H' := fun r H' left' m' d' r0 r1 o e1 e2 l1 l2 l3 =>
    kk (.int r) (.int r) H' (fun b u e _ n1 n2 => o b u n1 n2 e) ⟨left', m', d', e1, e2, l1, l2, l3⟩ (tb_only tb o h4 h5 (fun _ z => nomatch z) (fun _ z => nomatch z)) (.int r) (hq r r0 r1)
  refine ⟨_, pss_cons (ps_dput hu (pv 0) pe_str (pe_op op_add (pe_dget hu (pv 0) pe_str (fun _ _ => rfl)) pe_int) rfl)
    (pss_cons (ps_set (i := 2) scDraw.nd rfl (Or.inl rfl) (pe_op op_add (pe_dget hu (pv 0) pe_str (fun _ _ => rfl)) (pe_op op_mul pe_int (pe_dget hu (pv 0) pe_str (fun _ _ => rfl)))))
    (pss_cons (ps_if (pt_cmpR (op_neD hr.units) (pe_dget hu (pv 0) pe_str (fun _ _ => rfl)) (pe_lst pa_nil) (nomark _))
      (pss_cons (ps_set (i := 3) scDraw.nd rfl (Or.inl rfl) (pe_bm0 PySem.F.plainAttrs_list PySem.F.slot_list_pop PySem.F.type_list_pop mt_pop (pe_dget hu (pv 0) pe_str (fun _ _ => rfl))))
        (pss_cons (ps_if (pt_cmpR op_ge (pv 3) (pe_op op_pow pe_int pe_int) (nomark _))
          (pss_cons (ps_expr (pe_bm PySem.F.plainAttrs_list PySem.F.slot_list_append PySem.F.type_list_append mt_append (pe_dget hu (pv 0) pe_str (fun _ _ => rfl)) (pa_cons (pe_op op_fdivW (pv 3) (pe_callB (call_max2 rfl) (by rfl) T.max (by decide +kernel) (pa_cons pe_int (pa_cons (pv 1) pa_nil)))) pa_nil)))
            (pss_one (ps_ret (pe_op op_mod (pe_callTy call_int1 (by rfl) T.int (by decide +kernel) (pa_cons (pv 3) pa_nil)) (pv 1))))) pss_nil)
        (pss_one (ps_set (i := 2) scDraw.nd rfl (Or.inl rfl) (pe_op op_add (pv 2) (pe_op op_mod (pe_callTy call_int1 (by rfl) T.int (by decide +kernel) (pa_cons (pv 3) pa_nil)) pe_int)))))) pss_nil)
    (pss_cons (ps_set (i := 2) scDraw.nd rfl (Or.inl rfl) (pe_op op_mod (pe_callTy call_int1 (by rfl) T.int (by decide +kernel) (pa_cons
        (pe_op op_add (pe_op op_mul (pv 2) pe_int) pe_int) pa_nil)) pe_int))
    (pss_cons (ps_set (i := 2) scDraw.nd rfl (Or.inl rfl) (pe_op op_mod (pe_callTy call_int1 (by rfl) T.int (by decide +kernel) (pa_cons
        (pe_op op_add (pe_op op_add (pe_op op_mul (pv 2) (pv 2)) (pe_op op_mul pe_int (pe_dget hu (pv 0) pe_str (fun _ _ => rfl)))) pe_int) pa_nil)) pe_int))
    (pss_cons (ps_set (i := 2) scDraw.nd rfl (Or.inl rfl) (pe_op op_mod (pe_callTy call_int1 (by rfl) T.int (by decide +kernel) (pa_cons
        (pe_op op_mul (pv 2) pe_int) pa_nil)) pe_int))
    (pss_one (ps_ret (pe_op op_mod (pe_callTy call_int1 (by rfl) T.int (by decide +kernel) (pa_cons (pe_op op_fdiv (pv 2) pe_int) pa_nil)) (pv 1))))))))), ?_⟩
  have nld : lf ≠ dk := ne_of h5 h4 (fun z => nomatch z)
  refine ⟨_, rfl, dk, _, rfl, getN_draws kn_ok h4, _, _, rfl, rfl, _, rfl, dk, _, rfl, dputN_draws kn_ok h4, ?_⟩
  dsimp only
  have u4 : upd H dk (.dK (deckN kn lf mixed (draws + 1))) dk = some (.dK (deckN kn lf mixed (draws + 1))) := upd_same
  refine ⟨_, rfl, dk, _, rfl, getN_mixed kn_ok u4, _, rfl, dk, _, rfl, getN_draws kn_ok u4, _, _, rfl, rfl, .inl ⟨by decide, by decide⟩, _, _, rfl, rfl, ?_⟩
  unfold gName
  dsimp only
  refine seqIf (fun σ' H' => ∃ (n m' : Int) (left' : List Int) (c : Option V), σ' = [some (.ref dk), some (.int m), some (.int n), c] ∧ OnlyD dk lf H H' ∧ H' dk = some (.dK (deckN kn lf m' (draws + 1))) ∧ H' lf = some (.lst (left'.map V.int)) ∧ left'.length ≤ 63 ∧ 0 ≤ m' ∧ m' < 2 ^ 31) ?_ ?_
  · rintro σ' H' ⟨n, m', left', c, rfl, e1, e2, e3, e4, e5, e6⟩
    refine ⟨_, rfl, _, _, rfl, rfl, .inr ⟨by decide, by decide⟩, _, _, rfl, rfl, .inl ⟨_, rfl, _, _, rfl, rfl, (by show (0 : Int) < 2147483647; decide), ?_⟩⟩
    have f0 := Int.emod_nonneg (n * 39373 + 51) (show (2147483647 : Int) ≠ 0 by decide)
    have f1 := Int.emod_lt_of_pos (n * 39373 + 51) (show (0 : Int) < 2147483647 by decide)
    generalize (n * 39373 + 51) % 2147483647 = g at f0 f1
    refine ⟨_, rfl, _, rfl, _, _, rfl, rfl, .inl ⟨by omega, by omega⟩, _, rfl, dk, _, rfl, getN_draws kn_ok e2, _, _, rfl, rfl, .inl ⟨by decide, by decide⟩, _, _, rfl, rfl, _, _, rfl, rfl, .inl ⟨_, rfl, _, _, rfl, rfl, (by show (0 : Int) < 2147483587; decide), ?_⟩⟩
    have k0 := Int.emod_nonneg (g * g + 62233 * (draws + 1) + 51) (show (2147483587 : Int) ≠ 0 by decide)
    have k1 := Int.emod_lt_of_pos (g * g + 62233 * (draws + 1) + 51) (show (0 : Int) < 2147483587 by decide)
    generalize (g * g + 62233 * (draws + 1) + 51) % 2147483587 = k at k0 k1
    refine ⟨_, rfl, _, _, rfl, rfl, .inl ⟨by omega, by omega⟩, .inl ⟨_, rfl, _, _, rfl, rfl, (by show (0 : Int) < 2147483563; decide), ?_⟩⟩
    refine ⟨_, rfl, _, _, rfl, rfl, ⟨by decide, by decide⟩, .inl ⟨_, rfl, _, rfl, _, _, rfl, rfl, m0, ?_⟩⟩
    exact done _ _ left' m' (draws + 1) (Int.emod_nonneg _ (by omega)) (Int.emod_lt_of_pos _ m0) e1 e2 e3 e4 e5 e6
  intro fin
  have g1 : OnlyD dk lf H (upd H dk (.dK (deckN kn lf mixed (draws + 1)))) := OnlyD.refl.at_d
  have g5 : upd H dk (.dK (deckN kn lf mixed (draws + 1))) lf = some (.lst (left.map V.int)) := (upd_ne nld).trans h5
  refine ⟨_, rfl, dk, _, rfl, getN_left u4, Nat.zero_le _, fun p hp => ?_⟩
  have npd : dk ≠ p := ne_of_none u4 hp
  have npl : lf ≠ p := ne_of_none g5 hp
  have k1 : upd (upd H dk (.dK (deckN kn lf mixed (draws + 1)))) p (.lst []) dk = some (.dK (deckN kn lf mixed (draws + 1))) := (upd_ne npd).trans upd_same
  have k5 : upd (upd H dk (.dK (deckN kn lf mixed (draws + 1)))) p (.lst []) lf = some (.lst (left.map V.int)) := (upd_ne npl).trans g5
  have kS : OnlyD dk lf H (upd (upd H dk (.dK (deckN kn lf mixed (draws + 1)))) p (.lst [])) := g1.new hp
  refine ⟨_, _, ints_dp k5, ints_dp (ns := []) upd_same, ints_shaped _, ints_shaped [], _, rfl, ?_⟩
  rw [show PyData.eqv (.list (left.map PyData.int)) (.list ([].map PyData.int)) = left.isEmpty from eqv_nil left]
  cases hl : left.isEmpty with
  | true =>
    refine iteF ?_
    exact fin _ _ ⟨_, mixed, left, none, rfl, kS, k1, k5, h6, h7, h8⟩
  | false =>
    refine iteT ?_
    have ne : left ≠ [] := fun z => by simp [z] at hl
    refine ⟨_, rfl, dk, _, rfl, getN_left k1, .inl ⟨rfl, _, SqL.of k5⟩, lf, _, _, rfl, rfl, k5, last_int ne, ?_⟩
    generalize left.getLast ne = cell
    have ndl : (left.map V.int).dropLast = (left.dropLast).map V.int := (List.map_dropLast ..).symm
    have l63 : left.dropLast.length < 63 := by
      have : 0 < left.length := List.length_pos_iff.mpr ne
      rw [List.length_dropLast]
      omega
    rw [ndl]
    have j1 : upd (upd (upd H dk (.dK (deckN kn lf mixed (draws + 1)))) p (.lst [])) lf (.lst (left.dropLast.map V.int)) dk = some (.dK (deckN kn lf mixed (draws + 1))) := (upd_ne nld.symm).trans k1
    have jS : OnlyD dk lf H (upd (upd (upd H dk (.dK (deckN kn lf mixed (draws + 1)))) p (.lst [])) lf (.lst (left.dropLast.map V.int))) := kS.at_l
    refine ⟨_, rfl, 10, 18, rfl, rfl, ⟨by decide, by decide, by decide⟩, _, _, rfl, rfl, _, rfl, ?_⟩
    refine ite2 (fun _ => ?_) (fun _ => ?_)
    · have mx : (0 : Int) < (if m > 2 then m else 2) ∧ (if m > 2 then m else 2 : Int) < 2 ^ 60 := by split <;> omega
      refine ⟨_, rfl, dk, _, rfl, getN_left j1, .inl ⟨rfl, _, SqL.of upd_same⟩, _, rfl, _, rfl, 2, m, rfl, cell, _, rfl, rfl, wide_div (b := 60) mx.1 (by omega) (by decide) (by decide), lf, _, _, rfl, rfl, upd_same, (by rw [List.length_map]; exact sl_lt (by omega)), ?_⟩
      refine ⟨_, rfl, .inl ⟨_, rfl, _, rfl, _, _, rfl, rfl, m0, ?_⟩⟩
      have jT := jS.at_l (o := .lst (left.dropLast.map V.int ++ [.int (cell / (if m > 2 then m else 2))]))
      refine done _ _ (left.dropLast ++ [cell / (if m > 2 then m else 2)]) mixed (draws + 1) (Int.emod_nonneg _ (by omega)) (Int.emod_lt_of_pos _ m0) jT ((upd_ne nld.symm).trans j1) ?_ (by rw [List.length_append]; exact l63) h7 h8
      rw [upd_same, List.map_append]
      rfl
    · refine ⟨_, rfl, _, rfl, .inl ⟨_, rfl, _, _, rfl, rfl, (by show (0 : Int) < 2147483629; decide), _, _, rfl, rfl, ?_⟩⟩
      exact fin _ _ ⟨_, mixed, left.dropLast, some (.int cell), rfl, jS, j1, upd_same, by omega, h7, h8⟩
theorem scPick : FnScope ["deck", "some"] ["deck", "some"] (defScope sPick) := ⟨rfl, rfl, rfl, by decide +kernel, rfl, by decide +kernel, by decide +kernel⟩
theorem ok_pick (F : Fun K "_law_pick" "_law_pick" sPick f fd) (T : Blt mg) (C : CallD P w K mg base "_law_draw" 1 ["deck", "many"] (spDk Ta kn RDraw)) : FnOk P w K mg base CX0 2 f fd ["deck", "some"] (spDk Ta kn RPick) := by
  obtain ⟨g, gd, G, bG, kG, mG⟩ := C.ex
  refine fn_k (N := ["some"]) (ps := ["some"]) (n0 := "deck") (k := 1) F scPick (fun ds q h => ?_) (by decide) fun cdv A outer s H E hr => ⟨_, dss_one (ds_ret (dx_ix ix_A opS_ix (dx_var 1) (dx_callK (i := 0) G hr rfl mG kG bG (pv 0) (da_cons (dx_callB call_len callS_len (by rfl) T.len PySem.boot_len (da_cons (dx_var 1) da_nil)) da_nil)) (fun _ _ => rfl))), fun ds q h => ?_⟩
  · rcases h with ⟨xs, rfl | rfl, _⟩ | ⟨z, rfl, _⟩ <;> rfl
  have sz : (sizeLine : Int) < 2 ^ 60 := by decide
  have at' : ∀ {α : Type} (xs : List α) (r : Int), 0 ≤ r → r < xs.length → ∃ x, L2.atI xs r = some x ∧ x ∈ xs := fun xs r r0 r1 => by
    have hi : r.toNat < xs.length := by omega
    have e : r = ((r.toNat : Nat) : Int) := by omega
    have z := atI_nat (List.getElem?_eq_getElem hi)
    rw [← e] at z
    exact ⟨_, z, List.getElem_mem hi⟩
  rcases h with ⟨xs, hd, h0, h1, hq⟩ | ⟨z, rfl, h0, h1, hq⟩
  · have go : ∀ d, d = .list xs ∨ d = .tuple xs → ds = [d] → rOp gIx (rV 1) (rFnK 0 RDraw (raCons (rCall gLen (raCons (rV 1) raNil)) raNil)) (.deck :: dEnv 1 ds) q := fun d hd2 e => by
      subst e
      refine ⟨d, rfl, rfl, d, rfl, d, xs.length, rfl, by rcases hd2 with rfl | rfl <;> rfl, h1, xs.length, rfl, by omega, by omega, fun r r0 r1 => ?_⟩
      obtain ⟨x, e, hx⟩ := at' xs r r0 r1
      exact ⟨r, rfl, .inl ⟨xs, x, hd2, e, hq x hx⟩⟩
    rcases hd with h | h
    · exact go _ (.inl rfl) h
    · exact go _ (.inr rfl) h
  · refine ⟨.str z, rfl, rfl, .str z, rfl, .str z, z.length, rfl, rfl, h1, z.length, rfl, by omega, by omega, fun r r0 r1 => ?_⟩
    have hl : z.length = z.cps.toList.length := by simp [Str.length]
    obtain ⟨x, e, hx⟩ := at' z.cps.toList r r0 (by rw [← hl]; exact r1)
    exact ⟨r, rfl, .inr ⟨z, x, rfl, h1, e, hq x hx⟩⟩
end
end Zk

set_option maxHeartbeats 1000000
/-! V13: defs whose code object is known; dicts of the module; the sign of a number. -/
namespace Zk
open PySem PySem.Spec PyProof.Rows L2 GxR
/-- a def whose code object is known -/
structure FunD (K : PySem.W.Frag) (x qual : Str) (st : Stmt) (f : Addr) (fd : FuncData) (c : Addr) : Prop where
  ex : ∃ (oc : Value) (od : Option Addr) (kV doc pm : Value) (an : Option Addr) (ct : Value) (osl : Array (Option Value)),
    fd = PySem.W.fnOf x qual (defArgs st) (defBody st) (defScope st) .none kV doc pm an (.ref c) ct ∧ K.lookup f = some ⟨oc, od, .func fd, osl⟩ ∧ PySem.W.codeIn K (.ref c) qual = true
  kp : PySem.W.keepIn K (.ref f) = true
section
variable {P : Program} {w : World} {K : PySem.W.Frag} {mg : Str → Option Value} {base : Heap} {f c : Addr} {fd : FuncData} {Ta : List Addr} {nm : Str}
theorem FunD.fn {x qual : Str} {st : Stmt} (F : FunD K x qual st f fd c) : Fun K x qual st f fd :=
  let ⟨oc, od, kV, doc, pm, an, ct, osl, e, l, h⟩ := F.ex
  ⟨⟨oc, od, kV, doc, pm, an, .ref c, ct, osl, e, l, h⟩, F.kp⟩
theorem FunD.ok {x qual : Str} {st : Stmt} {N ps : List Str} {k : Nat} {sp : Sp} (F : FunD K x qual st f fd c) (S : FnScope N ps (defScope st)) (len : ∀ vs H Q E, sp vs H Q E → vs.length = ps.length)
    (hbody : ∀ (A : Around) (outer : List Env) (s : Shared) (H : Hp) (vs : List V) (Q : VK) (E : XK), Room k (A.deeper (envOfC qual (defScope st) s.heap.objs.size f (.ref c))) → sp vs H Q E →
      ∃ t, PSs (cxOf CX0 P w K mg base N qual (defScope st) f (.ref c) A outer s H E).nox (defBody st) t ∧ t { nx := fun _ H' => Q .non H', rt := Q } (start N vs) H) : FnOk P w K mg base CX0 (k + 1) f fd ps sp := by
  obtain ⟨oc, od, kV, doc, pm, an, ct, osl, rfl, lk, hcd⟩ := F.ex
  refine fn_of lk hcd S len fun A outer s H vs Q E hr hsp => ?_
  obtain ⟨t, h, q⟩ := hbody A outer s H vs Q E hr hsp
  exact ⟨t, h.nox, q⟩
theorem run_d {N ps : List Str} {vs : List V} {H : Hp} {Q : VK} {E : XK} {R : DFn} {r : DRS} (nm : Str) (len : ∀ ds q, R ds q → ds.length = ps.length) (hn : ps.length ≤ N.length) (h : spD' Ta R vs H Q E) (hb : ∀ ds q, R ds q → r (dEnd q) (dEnv N.length ds)) :
    tDS Ta nm r { nx := fun _ H' => Q .non H', rt := Q } (L2.start N vs) H := by
  obtain ⟨Z, ds, q, hz, sds, tb, hR, kk⟩ := h
  have hl := len ds q hR
  let C : DC Ta nm := ⟨none, Z, ntb H⟩
  have nodk : ∀ b, ¬ C.Dk b := fun b ⟨c, e, _⟩ => by cases e
  have zof : ∀ b, Zof C (L2.start N vs) (dEnv N.length ds) b → Z b := fun b h => by
    rcases h with h | h | ⟨i, e, h1, h2, _⟩
    · exact h
    · exact absurd h (nodk b)
    · rw [dEnv_own h1] at h2
      cases h2
  refine ⟨C, dEnv N.length ds, dEnd q, ?_, ?_, hb ds q hR⟩
  · refine ⟨⟨fun b k => absurd k (nodk b), fun b k => ?_, fun b ps e => (ntb_to e).2 ps rfl⟩, fun b o e _ _ => (ntb_to e).1, ⟨tb, fun c e => by cases e⟩, ?_, fun i e he => args_slot (sds.sm (msk_less zof)) he, fun i j e e' a _ h1 h2 => ?_⟩
    · obtain ⟨o, e, n⟩ := hz b k
      show ntb H b ≠ none
      rw [ntb_of e n]
      exact fun z => nomatch z
    · rw [dEnv_len (by omega)]
      show (vs.map some ++ List.replicate (N.length - vs.length) none).length = _
      have := sds.len
      rw [List.length_append, List.length_map, List.length_replicate]
      omega
    · rw [dEnv_own h1] at h2
      cases h2
  · have sm : ∀ H', Go C C.He H' → Sm H H' := fun H' g b o e n => g b o (ntb_of e n) n (nodk b)
    refine ⟨fun σ H' E' s' hq => kk .none .non H' (sm H' s'.go) s'.ok.tb .non hq, fun v H' d g k sd hq => kk d v H' (sm H' g) k.tb (sd.sm (msk_less fun b z => .inl z)) hq, fun σ H' E' s' hq => hq.elim, fun σ H' E' s' hq => hq.elim⟩
theorem run_k {N ps : List Str} {n0 : Str} {vs : List V} {H : Hp} {Q : VK} {E : XK} {R : DFn} {r : DRS} (len : ∀ ds q, R ds q → ds.length = ps.length) (hn : ps.length ≤ N.length) (h : spDk Ta nm R vs H Q E) (hb : ∀ ds q, R ds q → r (dEnd q) (.deck :: dEnv N.length ds)) :
    tDS Ta nm r { nx := fun _ H' => Q .non H', rt := Q } (L2.start (n0 :: N) vs) H := by
  obtain ⟨Z, dk, lf, ws, ds, q, rfl, hz, z1, z2, dok, sds, tb, hR, kk⟩ := h
  have hl := len ds q hR
  let C : DC Ta nm := ⟨some (dk, lf), Z, ntb H⟩
  have dkk : ∀ b, C.Dk b ↔ (b = dk ∨ b = lf) := fun b => ⟨fun ⟨c, e, z⟩ => by cases e; exact z, fun z => ⟨_, rfl, z⟩⟩
  have own : ∀ {i : Nat} {e : DV}, ((DV.deck :: dEnv N.length ds) : DEnv)[i]? = some e → e.own = false := fun {i e} h => by
    cases i with
    | zero => simp at h; rw [← h]; rfl
    | succ i => exact dEnv_own (by simpa using h)
  have zof : ∀ b, Zof C (L2.start (n0 :: N) (.ref dk :: ws)) (.deck :: dEnv N.length ds) b → Z b := fun b h => by
    rcases h with h | h | ⟨i, e, h1, h2, _⟩
    · exact h
    · rcases (dkk b).mp h with rfl | rfl
      · exact z1
      · exact z2
    · rw [own h1] at h2
      cases h2
  have st0 : L2.start (n0 :: N) (.ref dk :: ws) = some (.ref dk) :: L2.start N ws := by
    unfold L2.start
    simp
  have dok' := dok
  obtain ⟨left, m, d, e1, e2, _⟩ := dok'
  refine ⟨C, .deck :: dEnv N.length ds, dEnd q, ?_, ?_, hb ds q hR⟩
  · refine ⟨⟨fun b k => ?_, fun b k => ?_, fun b ps e => (ntb_to e).2 ps rfl⟩, fun b o e _ _ => (ntb_to e).1, ⟨tb, fun c e => by cases e; exact dok⟩, ?_, fun i e he => ?_, fun i j e e' a _ h1 h2 => ?_⟩
    · show ntb H b ≠ none
      rcases (dkk b).mp k with rfl | rfl
      · rw [ntb_of e1 (fun _ z => nomatch z)]; exact fun z => nomatch z
      · rw [ntb_of e2 (fun _ z => nomatch z)]; exact fun z => nomatch z
    · obtain ⟨o, e, n⟩ := hz b k
      show ntb H b ≠ none
      rw [ntb_of e n]
      exact fun z => nomatch z
    · rw [st0, List.length_cons, List.length_cons, dEnv_len (by omega)]
      congr 1
      show (ws.map some ++ List.replicate (N.length - ws.length) none).length = _
      have := sds.len
      rw [List.length_append, List.length_map, List.length_replicate]
      omega
    · rw [st0]
      cases i with
      | zero =>
        simp at he
        subst he
        exact ⟨_, rfl, (dk, lf), rfl, rfl⟩
      | succ i =>
        rw [List.getElem?_cons_succ] at he
        rw [List.getElem?_cons_succ]
        rw [← st0]
        exact args_slot (sds.sm (msk_less zof)) he
    · rw [own h1] at h2
      cases h2
  · have go : ∀ H', Go C C.He H' → ∀ b o, H b = some o → (∀ ps, o ≠ .tbl ps) → b ≠ dk → b ≠ lf → H' b = some o := fun H' g b o e n n1 n2 => g b o (ntb_of e n) n fun k => ((dkk b).mp k).elim n1 n2
    refine ⟨fun σ H' E' s' hq => kk .none .non H' (go H' s'.go) (s'.ok.dk _ rfl) s'.ok.tb .non hq, fun v H' d g k sd hq => kk d v H' (go H' g) (k.dk _ rfl) k.tb (sd.sm (msk_less fun b z => .inl z)) hq, fun σ H' E' s' hq => hq.elim, fun σ H' E' s' hq => hq.elim⟩
theorem spD_len {ps : List Str} {vs : List V} {H : Hp} {Q : VK} {E : XK} {R : DFn} (len : ∀ ds q, R ds q → ds.length = ps.length) (h : spD' Ta R vs H Q E) : vs.length = ps.length := by
  obtain ⟨Z, ds, q, _, sds, _, hR, _⟩ := h
  rw [sds.len]
  exact len ds q hR
theorem spDk_len {n0 : Str} {ps : List Str} {vs : List V} {H : Hp} {Q : VK} {E : XK} {R : DFn} (len : ∀ ds q, R ds q → ds.length = ps.length) (h : spDk Ta nm R vs H Q E) : vs.length = (n0 :: ps).length := by
  obtain ⟨Z, dk, lf, ws, ds, q, rfl, _, _, _, _, sds, _, hR, _⟩ := h
  rw [List.length_cons, List.length_cons, sds.len]
  exact congrArg Nat.succ (len ds q hR)
theorem fn_dC {x qual : Str} {st : Stmt} {N ps : List Str} {k : Nat} (nm : Str) {R : DFn} (F : FunD K x qual st f fd c) (S : FnScope N ps (defScope st)) (len : ∀ ds q, R ds q → ds.length = ps.length) (hn : ps.length ≤ N.length)
    (body : ∀ (A : Around) (outer : List Env) (s : Shared) (H : Hp) (E : XK), Room k (A.deeper (envOfC qual (defScope st) s.heap.objs.size f (.ref c))) →
      ∃ r, PSs (cxOf CX0 P w K mg base N qual (defScope st) f (.ref c) A outer s H E).nox (defBody st) (tDS Ta nm r) ∧ ∀ ds q, R ds q → r (dEnd q) (dEnv N.length ds)) : FnOk P w K mg base CX0 (k + 1) f fd ps (spD' Ta R) := by
  refine F.ok S (fun vs H Q E h => spD_len len h) (fun A outer s H vs Q E hr h => ?_)
  obtain ⟨r, ht, hb⟩ := body A outer s H E hr
  exact ⟨_, ht, run_d nm len hn h hb⟩
theorem fn_kC {x qual : Str} {st : Stmt} {N ps : List Str} {n0 : Str} {k : Nat} {R : DFn} (F : FunD K x qual st f fd c) (S : FnScope (n0 :: N) (n0 :: ps) (defScope st)) (len : ∀ ds q, R ds q → ds.length = ps.length) (hn : ps.length ≤ N.length)
    (body : ∀ (A : Around) (outer : List Env) (s : Shared) (H : Hp) (E : XK), Room k (A.deeper (envOfC qual (defScope st) s.heap.objs.size f (.ref c))) →
      ∃ r, PSs (cxOf CX0 P w K mg base (n0 :: N) qual (defScope st) f (.ref c) A outer s H E).nox (defBody st) (tDS Ta nm r) ∧ ∀ ds q, R ds q → r (dEnd q) (.deck :: dEnv N.length ds)) : FnOk P w K mg base CX0 (k + 1) f fd (n0 :: ps) (spDk Ta nm R) := by
  refine F.ok S (fun vs H Q E h => spDk_len len h) (fun A outer s H vs Q E hr h => ?_)
  obtain ⟨r, ht, hb⟩ := body A outer s H E hr
  exact ⟨_, ht, run_k len hn h hb⟩
end
/-! ### -e -/
section
variable {X : Cx} {Ta : List Addr} {nm : Str} {r : DR} {a e : Expr} {pos p : Pos}
@[simp] def rNeg (r : DR) : DR := fun E q => r E fun d => ∃ i, d = .int i ∧ q (.int (-i))
theorem dx_neg (h : PE X a (tD Ta nm r)) : PE X (.UnaryOp .USub a pos) (tD Ta nm (rNeg r)) := PE.weak (pe_un un_neg h) fun σ H Q ⟨C, E, q, s, hr, k⟩ =>
  ⟨C, E, _, s, hr, fun d v H1 g1 k1 sd ⟨i, e, hq⟩ => by
    subst e
    exact ⟨i, sd_int sd, k _ _ H1 g1 k1 (.int _) hq⟩⟩
/-! ### a dict of the module: from texts to ints -/
structure KMap (K : PySem.W.Frag) (w : World) (mg : Str → Option Value) (x : Str) (f : Str → Option Int) : Prop where
  ex : ∃ (d : Addr) (es : Array DictEntry) (n : Nat), mg x = some (.ref d) ∧ KDict K w d es n ∧ ∀ z, ∃ r, PySem.W.nsIn K d z = some r ∧ match f z with
    | none => r = none
    | some i => ∃ t, r = some (.int i t)
theorem kd_none {P : Program} {w : World} {h : Heap} {d : Addr} {f : Str → Option Value} (hm : h.MapOf (strKind P w) d f) : ∃ g, h.MapOf (noneKind P w) d g ∧ g none = none := by
  obtain ⟨o, es, ep, ho, hx, hdt, hk, _⟩ := hm
  refine ⟨fun k => findBy (noneKind P w).is es k, ⟨o, es, ep, ho, hx, hdt, fun e he => ?_, fun k => rfl⟩, ?_⟩
  · obtain ⟨k, h1, h2⟩ := hk e he
    exact ⟨some (.inr k), h1, h2⟩
  · have q : (es.find? fun e => nkIs none e.key) = none := by
      rw [Array.find?_eq_none]
      intro e he hq
      obtain ⟨k, h1, _⟩ := hk e he
      have e1 : keyIs (.inr k) e.key = true := h1
      rw [nk_none hq] at e1
      exact keyIs_none _ e1
    show (es.find? fun e => nkIs none e.key).map (·.val) = none
    rw [q] <;> rfl
/-- is among the keys -/
def inK (f : Str → Option Int) : PyData → Option Bool
  | .str z => some (f z).isSome
  | .none => some false
  | _ => none
def rInKd (K : PySem.W.Frag) (d : Addr) (n : Bool) : R2 := fun x y H Q => y = .ref d ∧ ((x = .non ∧ Q (.bl n) H) ∨ ∃ (z : Str) (r : Option Value), x = .str z ∧ PySem.W.nsIn K d z = some r ∧ Q (.bl (n != r.isSome)) H)
theorem op_notIn_kdN {d : Addr} {es : Array DictEntry} {n : Nat} (D : KDict X.K X.w d es n) : OpR X (compareOp .NotIn) (rInKd X.K d true) := by
  intro pins s σ H x y v u Q I rx ry h
  obtain ⟨rfl, h⟩ := h
  rcases h with ⟨rfl, q⟩ | ⟨z, r, rfl, e, q⟩
  · cases ry
    cases rx
    obtain ⟨g, hm, hg⟩ := kd_none (PySem.W.mapOf_K (prog := X.prog) I.kIn D.at_ D.lit)
    refine wpAny_notIn_of (show (noneKind X.prog X.w).is none .none = true from rfl) D.low hm ?_
    rw [hg]
    exact ⟨.bl true, H, I.tok _, rfl, q⟩
  · exact op_notIn_kd D pins s σ H _ _ v u Q I rx ry ⟨z, r, rfl, rfl, e, by simpa using q⟩
theorem op_in_kdN {d : Addr} {es : Array DictEntry} {n : Nat} (D : KDict X.K X.w d es n) : OpR X (compareOp .In) (rInKd X.K d false) := by
  intro pins s σ H x y v u Q I rx ry h
  obtain ⟨rfl, h⟩ := h
  rcases h with ⟨rfl, q⟩ | ⟨z, r, rfl, e, q⟩
  · cases ry
    cases rx
    obtain ⟨g, hm, hg⟩ := kd_none (PySem.W.mapOf_K (prog := X.prog) I.kIn D.at_ D.lit)
    refine wpAny_in_of (show (noneKind X.prog X.w).is none .none = true from rfl) D.low hm ?_
    rw [hg]
    exact ⟨.bl false, H, I.tok _, rfl, q⟩
  · exact op_in_kd D pins s σ H _ _ v u Q I rx ry ⟨z, r, rfl, rfl, e, by simpa using q⟩
@[simp] def rInK (n : Bool) (f : Str → Option Int) (r : DR) : DR := fun E q => r E fun d => ∃ b, inK f d = some b ∧ q (.bool (n != b))
theorem inK_run {d : Addr} {n : Bool} {f : Str → Option Int} {K : PySem.W.Frag} (hf : ∀ z, ∃ r, PySem.W.nsIn K d z = some r ∧ match f z with
    | none => r = none
    | some i => ∃ t, r = some (.int i t)) : ∀ σ H Q, tD Ta nm (rInK n f r) σ H Q → tOp (rInKd K d n) (tD Ta nm r) (tC (.ref d)) σ H Q := fun σ H Q ⟨C, E, q, s, hr, k⟩ =>
  ⟨C, E, _, s, hr, fun d' v H1 g1 k1 sd ⟨b, e, hq⟩ => by
    refine ⟨rfl, ?_⟩
    cases sd with
    | non =>
      cases e
      exact .inl ⟨rfl, k _ _ H1 g1 k1 (.bl _) (by simpa using hq)⟩
    | str z =>
      cases e
      obtain ⟨o, e1, e2⟩ := hf z
      refine .inr ⟨z, o, rfl, e1, k _ _ H1 g1 k1 (.bl _) ?_⟩
      cases q : f z with
      | none =>
        rw [q] at e2 hq
        have e2 : o = none := e2
        rw [e2]
        exact hq
      | some i =>
        rw [q] at e2 hq
        obtain ⟨t, e2⟩ := e2
        rw [e2]
        exact hq
    | _ => cases e⟩
theorem dx_notInK {x : Str} {f : Str → Option Int} (M : KMap X.K X.w X.mg x f) (hg : Gl X x) (h : PE X e (tD Ta nm r)) (hd : (x == ("__debug__" : Str)) = false := by decide +kernel) : PE X (.Compare e [.NotIn] [.Name x p] pos) (tD Ta nm (rInK true f r)) := by
  obtain ⟨d, es, n, hm, D, hf⟩ := M.ex
  exact PE.weak (pe_cmpR (op_notIn_kdN D) h (pe_glob (v := .ref d) hg hm rfl hd) (by rfl)) (inK_run hf)
theorem dx_inK {x : Str} {f : Str → Option Int} (M : KMap X.K X.w X.mg x f) (hg : Gl X x) (h : PE X e (tD Ta nm r)) (hd : (x == ("__debug__" : Str)) = false := by decide +kernel) : PE X (.Compare e [.In] [.Name x p] pos) (tD Ta nm (rInK false f r)) := by
  obtain ⟨d, es, n, hm, D, hf⟩ := M.ex
  exact PE.weak (pe_cmpR (op_in_kdN D) h (pe_glob (v := .ref d) hg hm rfl hd) (by rfl)) (inK_run hf)
theorem dt_notInK {x : Str} {f : Str → Option Int} (M : KMap X.K X.w X.mg x f) (hg : Gl X x) (h : PE X e (tD Ta nm r)) (hd : (x == ("__debug__" : Str)) = false := by decide +kernel) : L2.PT X (.Compare e [.NotIn] [.Name x p] pos) (tDT Ta nm (rTest (rInK true f r))) := by
  obtain ⟨d, es, n, hm, D, hf⟩ := M.ex
  exact PTx.weak (pt_cmpR (op_notIn_kdN D) h (pe_glob (v := .ref d) hg hm rfl hd) (by rfl)) (test_of (inK_run hf))
theorem dt_inK {x : Str} {f : Str → Option Int} (M : KMap X.K X.w X.mg x f) (hg : Gl X x) (h : PE X e (tD Ta nm r)) (hd : (x == ("__debug__" : Str)) = false := by decide +kernel) : L2.PT X (.Compare e [.In] [.Name x p] pos) (tDT Ta nm (rTest (rInK false f r))) := by
  obtain ⟨d, es, n, hm, D, hf⟩ := M.ex
  exact PTx.weak (pt_cmpR (op_in_kdN D) h (pe_glob (v := .ref d) hg hm rfl hd) (by rfl)) (test_of (inK_run hf))
@[simp] def rIxK (f : Str → Option Int) (r : DR) : DR := fun E q => r E fun d => ∃ z i, d = .str z ∧ f z = some i ∧ q (.int i)
theorem dx_ixK {x : Str} {f : Str → Option Int} (M : KMap X.K X.w X.mg x f) (hg : Gl X x) (h : PE X e (tD Ta nm r)) (hs : PlainIx e) (hd : (x == ("__debug__" : Str)) = false := by decide +kernel) : PE X (.Subscript (.Name x p) e pos) (tD Ta nm (rIxK f r)) := by
  obtain ⟨d, es, n, hm, D, hf⟩ := M.ex
  refine PE.weak (pe_ix ix_kdict (pe_glob (v := .ref d) hg hm rfl hd) h hs) fun σ H Q ⟨C, E, q, s, hr, k⟩ => ⟨C, E, _, s, hr, fun d' v H1 g1 k1 sd ⟨z, i, e, ef, hq⟩ => ?_⟩
  subst e
  obtain ⟨o, e1, e2⟩ := hf z
  rw [ef] at e2
  obtain ⟨t, e2⟩ := e2
  subst e2
  exact ⟨d, z, .int i, rfl, sd_str sd, ⟨es, n, _, D.at_, D.lit, e1, ⟨t, rfl⟩⟩, k _ _ H1 g1 k1 (.int i) hq⟩
end
end Zk

set_option maxHeartbeats 1000000
/-! V14: how long what repr shows may grow; places in rows. -/
namespace Zk
open PySem PySem.Spec PyProof.Rows L2 GxR
/-! ### sizes -/
mutual
def sz : PyData → Nat
  | .none | .bool _ => 5
  | .int i => i.natAbs.log2 + 2
  | .str x => 10 * x.length + 2
  | .list xs | .tuple xs => szAll xs + 2
  | .dict kvs => szKv kvs + 2
def szAll : List PyData → Nat
  | [] => 0
  | x :: xs => sz x + 2 + szAll xs
def szKv : List (PyData × PyData) → Nat
  | [] => 0
  | (k, v) :: r => sz k + sz v + 4 + szKv r
end
mutual
/-- no number is above B, no sign U or more -/
def good (B U : Nat) : PyData → Bool
  | .none | .bool _ => true
  | .int i => decide (i.natAbs ≤ B)
  | .str x => x.cps.toList.all fun c => decide (c < U)
  | .list xs | .tuple xs => goodAll B U xs
  | .dict kvs => goodKv B U kvs
def goodAll (B U : Nat) : List PyData → Bool
  | [] => true
  | x :: xs => good B U x && goodAll B U xs
def goodKv (B U : Nat) : List (PyData × PyData) → Bool
  | [] => true
  | (k, v) :: r => good B U k && good B U v && goodKv B U r
end
section
variable {B U : Nat} (hB : B < 2 ^ 1900) (hU : U ≤ 16 ^ 8)
include hB hU
mutual
theorem shown_sz : ∀ (d : PyData), good B U d = true → d.showable = true ∧ d.shown.length ≤ sz d
  | .none, _ => ⟨by simp [PyData.showable], by simp only [PyData.shown, sz]; decide +kernel⟩
  | .bool b, _ => ⟨by simp [PyData.showable], by cases b <;> (simp only [PyData.shown, sz]; decide +kernel)⟩
  | .int i, h => by
    have h : i.natAbs ≤ B := by simpa [good] using h
    have h : i.natAbs.log2 < 1900 := by
      by_cases z : i.natAbs = 0
      · rw [z]; decide
      · exact (Nat.log2_lt z).mpr (Nat.lt_of_le_of_lt h hB)
    refine ⟨by simp only [PyData.showable]; exact decide_eq_true (by omega), ?_⟩
    simp only [PyData.shown, sz]
    rw [PySem.ofString_length]
    exact int_text_length_le (by omega) (Nat.lt_succ_self _)
  | .str x, h => by
    have h : ∀ c ∈ x.cps.toList, c < 16 ^ 8 := fun c hc => by
      unfold good at h
      exact Nat.lt_of_lt_of_le (of_decide_eq_true (List.all_eq_true.mp h c hc)) hU
    refine ⟨by simp [PyData.showable], ?_⟩
    simp only [PyData.shown, sz]
    exact StrLaws.reprText_len x h
  | .list xs, h => by
    obtain ⟨h1, h2⟩ := shownAll_sz xs (by simpa [good] using h)
    refine ⟨by simpa [PyData.showable] using h1, ?_⟩
    have := list_len (PyData.shownAll xs)
    simp only [PyData.shown, sz]
    omega
  | .tuple xs, h => by
    obtain ⟨h1, h2⟩ := shownAll_sz xs (by simpa [good] using h)
    refine ⟨by simpa [PyData.showable] using h1, ?_⟩
    have := tuple_len (PyData.shownAll xs)
    simp only [PyData.shown, sz]
    omega
  | .dict kvs, h => by
    obtain ⟨h1, h2⟩ := shownKv_sz kvs (by simpa [good] using h)
    refine ⟨by simpa [PyData.showable] using h1, ?_⟩
    have := dict_len (PyData.shownKv kvs)
    simp only [PyData.shown, sz]
    omega
theorem shownAll_sz : ∀ (ds : List PyData), goodAll B U ds = true → PyData.showableAll ds = true ∧ piled (PyData.shownAll ds) ≤ szAll ds
  | [], _ => by simp [PyData.showableAll, PyData.shownAll, szAll, piled_nil]
  | d :: r, h => by
    have h : good B U d = true ∧ goodAll B U r = true := by simpa [goodAll] using h
    obtain ⟨a, b⟩ := shown_sz d h.1
    obtain ⟨a2, b2⟩ := shownAll_sz r h.2
    refine ⟨by simp [PyData.showableAll, a, a2], ?_⟩
    simp only [PyData.shownAll, szAll, piled_cons]
    omega
theorem shownKv_sz : ∀ (ds : List (PyData × PyData)), goodKv B U ds = true → PyData.showableKv ds = true ∧ piled (PyData.shownKv ds) ≤ szKv ds
  | [], _ => by simp [PyData.showableKv, PyData.shownKv, szKv, piled_nil]
  | (k, v) :: r, h => by
    have h : (good B U k = true ∧ good B U v = true) ∧ goodKv B U r = true := by simpa [goodKv] using h
    obtain ⟨a, b⟩ := shown_sz k h.1.1
    obtain ⟨a1, b1⟩ := shown_sz v h.1.2
    obtain ⟨a2, b2⟩ := shownKv_sz r h.2
    refine ⟨by simp [PyData.showableKv, a, a1, a2], ?_⟩
    have e3 : ((": " : Str)).length = 2 := rfl
    simp only [PyData.shownKv, szKv, piled_cons, strLen_append, e3]
    omega
end
end
theorem szAll_app : ∀ (a b : List PyData), szAll (a ++ b) = szAll a + szAll b
  | [], b => by simp [szAll]
  | x :: a, b => by
    simp only [List.cons_append, szAll, szAll_app a b]
    omega
theorem goodAll_iff {B U : Nat} : ∀ {a : List PyData}, goodAll B U a = true ↔ ∀ d ∈ a, good B U d = true
  | [] => by simp [goodAll]
  | x :: a => by simp [goodAll, goodAll_iff (a := a)]
mutual
theorem good_mono {B U B' U' : Nat} (hB : B ≤ B') (hU : U ≤ U') : ∀ {d : PyData}, good B U d = true → good B' U' d = true
  | .none, _ => by simp [good]
  | .bool _, _ => by simp [good]
  | .int i, h => by
    simp only [good, decide_eq_true_eq] at h ⊢
    omega
  | .str x, h => by
    unfold good at h ⊢
    exact List.all_eq_true.mpr fun c hc => decide_eq_true (Nat.lt_of_lt_of_le (of_decide_eq_true (List.all_eq_true.mp h c hc)) hU)
  | .list xs, h => by
    simp only [good] at h ⊢
    exact goodAll_mono hB hU h
  | .tuple xs, h => by
    simp only [good] at h ⊢
    exact goodAll_mono hB hU h
  | .dict xs, h => by
    simp only [good] at h ⊢
    exact goodKv_mono hB hU h
theorem goodAll_mono {B U B' U' : Nat} (hB : B ≤ B') (hU : U ≤ U') : ∀ {a : List PyData}, goodAll B U a = true → goodAll B' U' a = true
  | [], _ => by simp [goodAll]
  | x :: a, h => by
    simp only [goodAll, Bool.and_eq_true] at h ⊢
    exact ⟨good_mono hB hU h.1, goodAll_mono hB hU h.2⟩
theorem goodKv_mono {B U B' U' : Nat} (hB : B ≤ B') (hU : U ≤ U') : ∀ {a : List (PyData × PyData)}, goodKv B U a = true → goodKv B' U' a = true
  | [], _ => by simp [goodKv]
  | (k, v) :: a, h => by
    simp only [goodKv, Bool.and_eq_true] at h ⊢
    exact ⟨⟨good_mono hB hU h.1.1, good_mono hB hU h.1.2⟩, goodKv_mono hB hU h.2⟩
end
theorem depthAll_iff {n : Nat} : ∀ {a : List PyData}, PyData.depthAll a ≤ n ↔ ∀ d ∈ a, d.depth ≤ n
  | [] => by simp [PyData.depthAll]
  | x :: a => by simp [PyData.depthAll, Nat.max_le, depthAll_iff (a := a)]
theorem szAll_mem : ∀ {a : List PyData} {d : PyData}, d ∈ a → sz d + 2 ≤ szAll a
  | x :: a, d, h => by
    rcases List.mem_cons.mp h with rfl | h
    · simp only [szAll]; omega
    · have := szAll_mem h
      simp only [szAll]; omega
theorem szAll_len : ∀ (a : List PyData), 2 * a.length ≤ szAll a
  | [] => by simp [szAll]
  | x :: a => by
    have := szAll_len a
    simp only [szAll, List.length_cons]; omega
theorem szAll_take : ∀ (n : Nat) (a : List PyData), szAll (a.take n) ≤ szAll a
  | 0, a => by simp [szAll]
  | n + 1, [] => by simp [szAll]
  | n + 1, x :: a => by
    have := szAll_take n a
    simp only [List.take_succ_cons, szAll]; omega
theorem szAll_drop : ∀ (n : Nat) (a : List PyData), szAll (a.drop n) ≤ szAll a
  | 0, a => by simp
  | n + 1, [] => by simp
  | n + 1, x :: a => by
    have := szAll_drop n a
    simp only [List.drop_succ_cons, szAll]; omega
theorem szAll_rev (a : List PyData) : szAll a.reverse = szAll a := by
  induction a with
  | nil => rfl
  | cons x a ih =>
    rw [List.reverse_cons, szAll_app, ih]
    simp only [szAll]
    omega
/-- may be shown: numbers up to B, signs below U, at most dp deep, of size at most n -/
structure Nice (B U dp n : Nat) (d : PyData) : Prop where
  g : good B U d = true
  dp : d.depth ≤ dp
  sz : sz d ≤ n
/-- the same of all in a row; their sizes together -/
structure NiceAll (B U dp n : Nat) (ds : List PyData) : Prop where
  g : goodAll B U ds = true
  dp : PyData.depthAll ds ≤ dp
  sz : szAll ds ≤ n
section
variable {B U a b B' U' a' b' : Nat} {d : PyData} {ds es : List PyData}
theorem Nice.mono (h : Nice B U a b d) (h3 : B ≤ B') (h1 : a ≤ a') (h2 : b ≤ b') : Nice B' U a' b' d := ⟨good_mono h3 (Nat.le_refl _) h.g, Nat.le_trans h.dp h1, Nat.le_trans h.sz h2⟩
theorem Nice.repr (h : Nice B U a b d) (hB : B < 2 ^ 1900) (hU : U ≤ 16 ^ 8) (h1 : a ≤ 100) (h2 : b ≤ sizeLine) : d.showable = true ∧ d.depth ≤ 100 ∧ d.shown.length ≤ sizeLine := by
  obtain ⟨x, y⟩ := shown_sz hB hU d h.g
  have := h.sz
  have := h.dp
  exact ⟨x, by omega, by omega⟩
theorem NiceAll.mono (h : NiceAll B U a b ds) (h3 : B ≤ B') (h1 : a ≤ a') (h2 : b ≤ b') : NiceAll B' U a' b' ds := ⟨goodAll_mono h3 (Nat.le_refl _) h.g, Nat.le_trans h.dp h1, Nat.le_trans h.sz h2⟩
theorem NiceAll.nil : NiceAll B U a 0 [] := ⟨rfl, by simp [PyData.depthAll], by simp [szAll]⟩
theorem NiceAll.cons (h : Nice B U a b d) (k : NiceAll B U a b' ds) : NiceAll B U a (b + 2 + b') (d :: ds) := ⟨by simp [goodAll, h.g, k.g], by simp only [PyData.depthAll]; have := h.dp; have := k.dp; omega, by simp only [szAll]; have := h.sz; have := k.sz; omega⟩
theorem NiceAll.app (h : NiceAll B U a b ds) (k : NiceAll B U a b' es) : NiceAll B U a (b + b') (ds ++ es) :=
  ⟨goodAll_iff.mpr fun d hd => (List.mem_append.mp hd).elim (goodAll_iff.mp h.g d) (goodAll_iff.mp k.g d), depthAll_iff.mpr fun d hd => (List.mem_append.mp hd).elim (depthAll_iff.mp h.dp d) (depthAll_iff.mp k.dp d), by rw [szAll_app]; have := h.sz; have := k.sz; omega⟩
theorem NiceAll.sub (h : NiceAll B U a b ds) (hs : ∀ d ∈ es, d ∈ ds) (hz : szAll es ≤ szAll ds) : NiceAll B U a b es :=
  ⟨goodAll_iff.mpr fun d hd => goodAll_iff.mp h.g d (hs d hd), depthAll_iff.mpr fun d hd => depthAll_iff.mp h.dp d (hs d hd), Nat.le_trans hz h.sz⟩
theorem NiceAll.take (h : NiceAll B U a b ds) (n : Nat) : NiceAll B U a b (ds.take n) := h.sub (fun _ => List.mem_of_mem_take) (szAll_take n ds)
theorem NiceAll.drop (h : NiceAll B U a b ds) (n : Nat) : NiceAll B U a b (ds.drop n) := h.sub (fun _ => List.mem_of_mem_drop) (szAll_drop n ds)
theorem NiceAll.rev (h : NiceAll B U a b ds) : NiceAll B U a b ds.reverse := h.sub (fun _ => List.mem_reverse.mp) (by rw [szAll_rev]; exact Nat.le_refl _)
theorem NiceAll.cut (h : NiceAll B U a b ds) (lo hi : Option Int) : NiceAll B U a b (cutL ds lo hi) := (h.drop _).take _
theorem NiceAll.mem (h : NiceAll B U a b ds) (hd : d ∈ ds) : Nice B U a (b - 2) d := ⟨goodAll_iff.mp h.g d hd, depthAll_iff.mp h.dp d hd, by have := szAll_mem hd; have := h.sz; omega⟩
theorem NiceAll.len (h : NiceAll B U a b ds) : 2 * ds.length ≤ b := Nat.le_trans (szAll_len ds) h.sz
theorem nice_tup (h : NiceAll B U a b ds) : Nice B U (a + 1) (b + 2) (.tuple ds) := ⟨by simpa only [good] using h.g, by simp only [PyData.depth]; have := h.dp; omega, by simp only [Zk.sz]; have := h.sz; omega⟩
theorem nice_lst (h : NiceAll B U a b ds) : Nice B U (a + 1) (b + 2) (.list ds) := ⟨by simpa only [good] using h.g, by simp only [PyData.depth]; have := h.dp; omega, by simp only [Zk.sz]; have := h.sz; omega⟩
theorem tup_nice (h : Nice B U (a + 1) b (.tuple ds)) : NiceAll B U a (b - 2) ds := ⟨by simpa only [good] using h.g, by have := h.dp; simp only [PyData.depth] at this; omega, by have := h.sz; simp only [Zk.sz] at this; omega⟩
theorem tup_pos (h : Nice B U a b (.tuple ds)) : 0 < a := by have := h.dp; simp only [PyData.depth] at this; omega
theorem nice_non : Nice B U 0 5 .none := ⟨by simp [good], by simp [PyData.depth], by simp [Zk.sz]⟩
theorem nice_bl (x : Bool) : Nice B U 0 5 (.bool x) := ⟨by simp [good], by simp [PyData.depth], by simp [Zk.sz]⟩
theorem nice_int {i : Int} {k : Nat} (h : i.natAbs ≤ B) (hk : i.natAbs < 2 ^ (k + 1)) : Nice B U 0 (k + 2) (.int i) := ⟨by simpa [good] using h, by simp [PyData.depth], by
  simp only [Zk.sz]
  by_cases z : i.natAbs = 0
  · rw [z]
    have : Nat.log2 0 = 0 := by decide
    omega
  · have := (Nat.log2_lt z).mpr hk
    omega⟩
theorem nice_str {x : Str} {k : Nat} (h : ∀ c ∈ x.cps.toList, c < U) (hk : 10 * x.length + 2 ≤ k) : Nice B U 0 k (.str x) := ⟨by unfold good; exact List.all_eq_true.mpr fun c hc => decide_eq_true (h c hc), by simp [PyData.depth], by simp only [Zk.sz]; exact hk⟩
theorem nice_dic0 : Nice B U 1 2 (.dict []) := ⟨by simp [good, goodKv], by simp [PyData.depth, PyData.depthKv], by simp [Zk.sz, szKv]⟩
end
/-! ### places -/
@[simp] theorem atI_0 {α : Type} (x : α) (xs : List α) : L2.atI (x :: xs) 0 = some x := by
  simp [L2.atI, ixN]
@[simp] theorem atI_1 {α : Type} (x y : α) (xs : List α) : L2.atI (x :: y :: xs) 1 = some y := by
  unfold L2.atI ixN
  rw [if_pos (by decide), if_pos (by simp; omega)]
  rfl
@[simp] theorem atI_2 {α : Type} (x y z : α) (xs : List α) : L2.atI (x :: y :: z :: xs) 2 = some z := by
  unfold L2.atI ixN
  rw [if_pos (by decide), if_pos (by simp; omega)]
  rfl
theorem atI_in {α : Type} (xs : List α) (r : Int) (r0 : 0 ≤ r) (r1 : r < xs.length) : ∃ x, L2.atI xs r = some x ∧ x ∈ xs := by
  have hi : r.toNat < xs.length := by omega
  have e : r = ((r.toNat : Nat) : Int) := by omega
  have z := atI_nat (List.getElem?_eq_getElem hi)
  rw [← e] at z
  exact ⟨_, z, List.getElem_mem hi⟩
theorem atI_neg1 {α : Type} (xs : List α) (h : xs ≠ []) : ∃ x, L2.atI xs (-1) = some x ∧ x ∈ xs := by
  have := atI_last xs.dropLast (xs.getLast h)
  rw [List.dropLast_concat_getLast] at this
  exact ⟨_, this, List.getLast_mem h⟩
/-! ### data told by their shape -/
@[simp] theorem isTupD_none : isTupD .none = false := rfl
@[simp] theorem isTupD_bool (b : Bool) : isTupD (.bool b) = false := rfl
@[simp] theorem isTupD_int (i : Int) : isTupD (.int i) = false := rfl
@[simp] theorem isTupD_str (z : Str) : isTupD (.str z) = false := rfl
@[simp] theorem isTupD_list (xs : List PyData) : isTupD (.list xs) = false := rfl
@[simp] theorem isTupD_tuple (xs : List PyData) : isTupD (.tuple xs) = true := rfl
@[simp] theorem isTupD_dict (kvs : List (PyData × PyData)) : isTupD (.dict kvs) = false := rfl
@[simp] theorem isStrD_none : isStrD .none = false := rfl
@[simp] theorem isStrD_bool (b : Bool) : isStrD (.bool b) = false := rfl
@[simp] theorem isStrD_int (i : Int) : isStrD (.int i) = false := rfl
@[simp] theorem isStrD_str (z : Str) : isStrD (.str z) = true := rfl
@[simp] theorem isStrD_list (xs : List PyData) : isStrD (.list xs) = false := rfl
@[simp] theorem isStrD_tuple (xs : List PyData) : isStrD (.tuple xs) = false := rfl
@[simp] theorem isStrD_dict (kvs : List (PyData × PyData)) : isStrD (.dict kvs) = false := rfl
@[simp] theorem isBoolD_none : isBoolD .none = false := rfl
@[simp] theorem isBoolD_bool (b : Bool) : isBoolD (.bool b) = true := rfl
@[simp] theorem isBoolD_int (i : Int) : isBoolD (.int i) = false := rfl
@[simp] theorem isBoolD_str (z : Str) : isBoolD (.str z) = false := rfl
@[simp] theorem isBoolD_list (xs : List PyData) : isBoolD (.list xs) = false := rfl
@[simp] theorem isBoolD_tuple (xs : List PyData) : isBoolD (.tuple xs) = false := rfl
@[simp] theorem isBoolD_dict (kvs : List (PyData × PyData)) : isBoolD (.dict kvs) = false := rfl
@[simp] theorem isNumD_none : isNumD .none = false := rfl
@[simp] theorem isNumD_bool (b : Bool) : isNumD (.bool b) = true := rfl
@[simp] theorem isNumD_int (i : Int) : isNumD (.int i) = true := rfl
@[simp] theorem isNumD_str (z : Str) : isNumD (.str z) = false := rfl
@[simp] theorem isNumD_list (xs : List PyData) : isNumD (.list xs) = false := rfl
@[simp] theorem isNumD_tuple (xs : List PyData) : isNumD (.tuple xs) = false := rfl
@[simp] theorem isNumD_dict (kvs : List (PyData × PyData)) : isNumD (.dict kvs) = false := rfl
@[simp] theorem isListD_none : isListD .none = false := rfl
@[simp] theorem isListD_bool (b : Bool) : isListD (.bool b) = false := rfl
@[simp] theorem isListD_int (i : Int) : isListD (.int i) = false := rfl
@[simp] theorem isListD_str (z : Str) : isListD (.str z) = false := rfl
@[simp] theorem isListD_list (xs : List PyData) : isListD (.list xs) = true := rfl
@[simp] theorem isListD_tuple (xs : List PyData) : isListD (.tuple xs) = false := rfl
@[simp] theorem isListD_dict (kvs : List (PyData × PyData)) : isListD (.dict kvs) = false := rfl
@[simp] theorem flatD_none : flatD .none = true := rfl
@[simp] theorem flatD_bool (b : Bool) : flatD (.bool b) = true := rfl
@[simp] theorem flatD_int (i : Int) : flatD (.int i) = true := rfl
@[simp] theorem flatD_str (z : Str) : flatD (.str z) = true := rfl
@[simp] theorem flatD_list (xs : List PyData) : flatD (.list xs) = false := rfl
@[simp] theorem flatD_tuple (xs : List PyData) : flatD (.tuple xs) = false := rfl
@[simp] theorem flatD_dict (kvs : List (PyData × PyData)) : flatD (.dict kvs) = false := rfl
@[simp] theorem lenD_str (z : Str) : lenD (.str z) = some z.length := rfl
@[simp] theorem lenD_list (xs : List PyData) : lenD (.list xs) = some xs.length := rfl
@[simp] theorem lenD_tuple (xs : List PyData) : lenD (.tuple xs) = some xs.length := rfl
@[simp] theorem lenD_none : lenD .none = none := rfl
@[simp] theorem lenD_bool (b : Bool) : lenD (.bool b) = none := rfl
@[simp] theorem lenD_int (i : Int) : lenD (.int i) = none := rfl
@[simp] theorem lenD_dict (kvs : List (PyData × PyData)) : lenD (.dict kvs) = none := rfl
@[simp] theorem scD_none_none : scD .none .none = true := rfl
@[simp] theorem eqv_none_none : PyData.eqv .none .none = true := by simp only [PyData.eqv]
@[simp] theorem scD_none_bool (b2 : Bool) : scD .none (.bool b2) = true := rfl
@[simp] theorem eqv_none_bool (b2 : Bool) : PyData.eqv .none (.bool b2) = false := by simp only [PyData.eqv]
@[simp] theorem scD_none_int (j : Int) : scD .none (.int j) = true := rfl
@[simp] theorem eqv_none_int (j : Int) : PyData.eqv .none (.int j) = false := by simp only [PyData.eqv]
@[simp] theorem scD_none_str (y : Str) : scD .none (.str y) = true := rfl
@[simp] theorem eqv_none_str (y : Str) : PyData.eqv .none (.str y) = false := by simp only [PyData.eqv]
@[simp] theorem eqv_none_list (ys : List PyData) : PyData.eqv .none (.list ys) = false := by simp only [PyData.eqv]
@[simp] theorem eqv_none_tuple (ys : List PyData) : PyData.eqv .none (.tuple ys) = false := by simp only [PyData.eqv]
@[simp] theorem eqv_none_dict (kws : List (PyData × PyData)) : PyData.eqv .none (.dict kws) = false := by simp only [PyData.eqv]
@[simp] theorem scD_bool_none (b : Bool) : scD (.bool b) .none = true := rfl
@[simp] theorem eqv_bool_none (b : Bool) : PyData.eqv (.bool b) .none = false := by simp only [PyData.eqv]
@[simp] theorem scD_bool_bool (b : Bool) (b2 : Bool) : scD (.bool b) (.bool b2) = true := rfl
@[simp] theorem eqv_bool_bool (b : Bool) (b2 : Bool) : PyData.eqv (.bool b) (.bool b2) = (b == b2) := by simp only [PyData.eqv]
@[simp] theorem eqv_bool_int (b : Bool) (j : Int) : PyData.eqv (.bool b) (.int j) = ((if b then 1 else 0) == j) := by simp only [PyData.eqv]
@[simp] theorem scD_bool_str (b : Bool) (y : Str) : scD (.bool b) (.str y) = true := rfl
@[simp] theorem eqv_bool_str (b : Bool) (y : Str) : PyData.eqv (.bool b) (.str y) = false := by simp only [PyData.eqv]
@[simp] theorem eqv_bool_list (b : Bool) (ys : List PyData) : PyData.eqv (.bool b) (.list ys) = false := by simp only [PyData.eqv]
@[simp] theorem eqv_bool_tuple (b : Bool) (ys : List PyData) : PyData.eqv (.bool b) (.tuple ys) = false := by simp only [PyData.eqv]
@[simp] theorem eqv_bool_dict (b : Bool) (kws : List (PyData × PyData)) : PyData.eqv (.bool b) (.dict kws) = false := by simp only [PyData.eqv]
@[simp] theorem scD_int_none (i : Int) : scD (.int i) .none = true := rfl
@[simp] theorem eqv_int_none (i : Int) : PyData.eqv (.int i) .none = false := by simp only [PyData.eqv]
@[simp] theorem eqv_int_bool (i : Int) (b2 : Bool) : PyData.eqv (.int i) (.bool b2) = (i == (if b2 then 1 else 0)) := by simp only [PyData.eqv]
@[simp] theorem scD_int_int (i : Int) (j : Int) : scD (.int i) (.int j) = true := rfl
@[simp] theorem eqv_int_int (i : Int) (j : Int) : PyData.eqv (.int i) (.int j) = (i == j) := by simp only [PyData.eqv]
@[simp] theorem scD_int_str (i : Int) (y : Str) : scD (.int i) (.str y) = true := rfl
@[simp] theorem eqv_int_str (i : Int) (y : Str) : PyData.eqv (.int i) (.str y) = false := by simp only [PyData.eqv]
@[simp] theorem eqv_int_list (i : Int) (ys : List PyData) : PyData.eqv (.int i) (.list ys) = false := by simp only [PyData.eqv]
@[simp] theorem eqv_int_tuple (i : Int) (ys : List PyData) : PyData.eqv (.int i) (.tuple ys) = false := by simp only [PyData.eqv]
@[simp] theorem eqv_int_dict (i : Int) (kws : List (PyData × PyData)) : PyData.eqv (.int i) (.dict kws) = false := by simp only [PyData.eqv]
@[simp] theorem scD_str_none (z : Str) : scD (.str z) .none = true := rfl
@[simp] theorem eqv_str_none (z : Str) : PyData.eqv (.str z) .none = false := by simp only [PyData.eqv]
@[simp] theorem scD_str_bool (z : Str) (b2 : Bool) : scD (.str z) (.bool b2) = true := rfl
@[simp] theorem eqv_str_bool (z : Str) (b2 : Bool) : PyData.eqv (.str z) (.bool b2) = false := by simp only [PyData.eqv]
@[simp] theorem scD_str_int (z : Str) (j : Int) : scD (.str z) (.int j) = true := rfl
@[simp] theorem eqv_str_int (z : Str) (j : Int) : PyData.eqv (.str z) (.int j) = false := by simp only [PyData.eqv]
@[simp] theorem scD_str_str (z : Str) (y : Str) : scD (.str z) (.str y) = true := rfl
@[simp] theorem eqv_str_str (z : Str) (y : Str) : PyData.eqv (.str z) (.str y) = (z == y) := by simp only [PyData.eqv]
@[simp] theorem eqv_str_list (z : Str) (ys : List PyData) : PyData.eqv (.str z) (.list ys) = false := by simp only [PyData.eqv]
@[simp] theorem eqv_str_tuple (z : Str) (ys : List PyData) : PyData.eqv (.str z) (.tuple ys) = false := by simp only [PyData.eqv]
@[simp] theorem eqv_str_dict (z : Str) (kws : List (PyData × PyData)) : PyData.eqv (.str z) (.dict kws) = false := by simp only [PyData.eqv]
@[simp] theorem eqv_list_none (xs : List PyData) : PyData.eqv (.list xs) .none = false := by simp only [PyData.eqv]
@[simp] theorem eqv_list_bool (xs : List PyData) (b2 : Bool) : PyData.eqv (.list xs) (.bool b2) = false := by simp only [PyData.eqv]
@[simp] theorem eqv_list_int (xs : List PyData) (j : Int) : PyData.eqv (.list xs) (.int j) = false := by simp only [PyData.eqv]
@[simp] theorem eqv_list_str (xs : List PyData) (y : Str) : PyData.eqv (.list xs) (.str y) = false := by simp only [PyData.eqv]
@[simp] theorem eqv_list_list (xs : List PyData) (ys : List PyData) : PyData.eqv (.list xs) (.list ys) = PyData.eqvAll xs ys := by simp only [PyData.eqv]
@[simp] theorem eqv_list_tuple (xs : List PyData) (ys : List PyData) : PyData.eqv (.list xs) (.tuple ys) = false := by simp only [PyData.eqv]
@[simp] theorem eqv_list_dict (xs : List PyData) (kws : List (PyData × PyData)) : PyData.eqv (.list xs) (.dict kws) = false := by simp only [PyData.eqv]
@[simp] theorem eqv_tuple_none (xs : List PyData) : PyData.eqv (.tuple xs) .none = false := by simp only [PyData.eqv]
@[simp] theorem eqv_tuple_bool (xs : List PyData) (b2 : Bool) : PyData.eqv (.tuple xs) (.bool b2) = false := by simp only [PyData.eqv]
@[simp] theorem eqv_tuple_int (xs : List PyData) (j : Int) : PyData.eqv (.tuple xs) (.int j) = false := by simp only [PyData.eqv]
@[simp] theorem eqv_tuple_str (xs : List PyData) (y : Str) : PyData.eqv (.tuple xs) (.str y) = false := by simp only [PyData.eqv]
@[simp] theorem eqv_tuple_list (xs : List PyData) (ys : List PyData) : PyData.eqv (.tuple xs) (.list ys) = false := by simp only [PyData.eqv]
@[simp] theorem eqv_tuple_tuple (xs : List PyData) (ys : List PyData) : PyData.eqv (.tuple xs) (.tuple ys) = PyData.eqvAll xs ys := by simp only [PyData.eqv]
@[simp] theorem eqv_tuple_dict (xs : List PyData) (kws : List (PyData × PyData)) : PyData.eqv (.tuple xs) (.dict kws) = false := by simp only [PyData.eqv]
@[simp] theorem eqv_dict_none (kvs : List (PyData × PyData)) : PyData.eqv (.dict kvs) .none = false := by simp only [PyData.eqv]
@[simp] theorem eqv_dict_bool (kvs : List (PyData × PyData)) (b2 : Bool) : PyData.eqv (.dict kvs) (.bool b2) = false := by simp only [PyData.eqv]
@[simp] theorem eqv_dict_int (kvs : List (PyData × PyData)) (j : Int) : PyData.eqv (.dict kvs) (.int j) = false := by simp only [PyData.eqv]
@[simp] theorem eqv_dict_str (kvs : List (PyData × PyData)) (y : Str) : PyData.eqv (.dict kvs) (.str y) = false := by simp only [PyData.eqv]
@[simp] theorem eqv_dict_list (kvs : List (PyData × PyData)) (ys : List PyData) : PyData.eqv (.dict kvs) (.list ys) = false := by simp only [PyData.eqv]
@[simp] theorem eqv_dict_tuple (kvs : List (PyData × PyData)) (ys : List PyData) : PyData.eqv (.dict kvs) (.tuple ys) = false := by simp only [PyData.eqv]
@[simp] theorem eqv_dict_dict (kvs : List (PyData × PyData)) (kws : List (PyData × PyData)) : PyData.eqv (.dict kvs) (.dict kws) = false := by simp only [PyData.eqv]
/-! ### subscripts and slices, by shape -/
@[simp] theorem gIx_tup {xs : List PyData} {n : Int} {q : PyData → Prop} : gIx (.tuple xs) (.int n) q = ∃ y, L2.atI xs n = some y ∧ q y := by
  unfold gIx
  simp
@[simp] theorem gIx_lst {xs : List PyData} {n : Int} {q : PyData → Prop} : gIx (.list xs) (.int n) q = ∃ y, L2.atI xs n = some y ∧ q y := by
  unfold gIx
  simp
@[simp] theorem gIx_str {z : Str} {n : Int} {q : PyData → Prop} : gIx (.str z) (.int n) q = (z.length ≤ sizeLine ∧ ∃ c, L2.atI z.cps.toList n = some c ∧ q (.str ⟨#[c]⟩)) := by
  unfold gIx
  simp
@[simp] theorem gSl_tup {xs : List PyData} {lo hi : Option Int} {q : PyData → Prop} : gSl (.tuple xs) lo hi q = q (.tuple (cutL xs lo hi)) := by
  unfold gSl
  simp
@[simp] theorem gSl_lst {xs : List PyData} {lo hi : Option Int} {q : PyData → Prop} : gSl (.list xs) lo hi q = q (.list (cutL xs lo hi)) := by
  unfold gSl
  simp
@[simp] theorem gSl_str {z : Str} {lo hi : Option Int} {q : PyData → Prop} : gSl (.str z) lo hi q = (z.length ≤ sizeLine ∧ q (.str (cutS z lo hi))) := by
  unfold gSl
  simp
end Zk

set_option maxHeartbeats 1000000
/-! V15: what all, any, comprehensions and walks come to. -/
namespace Zk
open PySem PySem.Spec PyProof.Rows L2 GxR
section
variable {vs : List Nat} {ri : DRI} {re : DR} {rt : DRT} {E : DEnv} {q : PyData → Prop} {i : Nat} {f p : PyData → Bool}
theorem paired_app {α β : Type} {R : α → β → Prop} : ∀ {as cs : List α} {bs es : List β}, Paired R as bs → Paired R cs es → Paired R (as ++ cs) (bs ++ es)
  | _, _, _, _, .nil, h => h
  | _, _, _, _, .cons a t, h => .cons a (paired_app t h)
theorem noOwn_of (h : ∀ j ∈ vs, E[j]? = some .no ∨ E[j]? = none ∨ ∃ d, E[j]? = some (.d d)) : NoOwn E vs := fun j hj e he => by
  rcases h j hj with h | h | ⟨d, h⟩
  · rw [h] at he; cases he; rfl
  · rw [h] at he; cases he
  · rw [h] at he; cases he; rfl
theorem all_take {l : List PyData} {k : Nat} {d : PyData} (hd : l[k]? = some d) : (l.take (k + 1)).all f = ((l.take k).all f && f d) := by
  rw [List.take_succ, hd, List.all_append]
  simp
theorem any_take {l : List PyData} {k : Nat} {d : PyData} (hd : l[k]? = some d) : (l.take (k + 1)).any f = ((l.take k).any f || f d) := by
  rw [List.take_succ, hd, List.any_append]
  simp
theorem rAll_all (xs : List PyData) (no : NoOwn E vs) (hi : i < E.length) (hri : ∀ q' : List PyData → Prop, q' xs → ri E q') (hre : ∀ d ∈ xs, ∀ q' : PyData → Prop, q' (.bool (f d)) → re ((wipeE E vs).set i (.d d)) q') (hq : q (.bool (xs.all f))) : rAll true vs ri (rgN i) rtYes re E q := by
  refine ⟨no, hri _ ⟨fun k => (xs.take k).all f = true, rfl, fun k d hd hI => ⟨by rw [wipeE_len]; exact hi, ?_⟩, fun h => ?_⟩⟩
  · dsimp only [rtYes]
    refine iteT (hre d (List.mem_of_getElem? hd) _ ⟨_, rfl, ?_⟩)
    by_cases h : f d = true
    · rw [if_pos h, all_take hd, hI, h]
      rfl
    · rw [if_neg h]
      have : xs.all f = false := by
        cases e : xs.all f with
        | false => rfl
        | true => exact absurd (List.all_eq_true.mp e d (List.mem_of_getElem? hd)) h
      rw [this] at hq
      rw [Bool.eq_false_iff.mpr h]
      exact hq
  · dsimp only at h
    rw [List.take_length] at h
    rw [h] at hq
    exact hq
theorem rAll_any (xs : List PyData) (no : NoOwn E vs) (hi : i < E.length) (hri : ∀ q' : List PyData → Prop, q' xs → ri E q') (hre : ∀ d ∈ xs, ∀ q' : PyData → Prop, q' (.bool (f d)) → re ((wipeE E vs).set i (.d d)) q') (hq : q (.bool (xs.any f))) : rAll false vs ri (rgN i) rtYes re E q := by
  refine ⟨no, hri _ ⟨fun k => (xs.take k).any f = false, rfl, fun k d hd hI => ⟨by rw [wipeE_len]; exact hi, ?_⟩, fun h => ?_⟩⟩
  · dsimp only [rtYes]
    refine iteT (hre d (List.mem_of_getElem? hd) _ ⟨_, rfl, ?_⟩)
    by_cases h : f d = false
    · rw [if_pos h, any_take hd, hI, h]
      rfl
    · rw [if_neg h]
      have h : f d = true := by simpa using h
      have : xs.any f = true := List.any_eq_true.mpr ⟨d, List.mem_of_getElem? hd, h⟩
      rw [this] at hq
      rw [h]
      exact hq
  · dsimp only at h
    rw [List.take_length] at h
    rw [h] at hq
    exact hq
/-- what a comprehension asks of its items -/
def LcB (vs : List Nat) (rg : DRG) (rt : DRT) (re : DR) (E : DEnv) (q : PyData → Prop) (xs : List PyData) : Prop := ∃ I : Nat → List PyData → Prop, I 0 [] ∧
  (∀ i d acc, xs[i]? = some d → I i acc → rg d (wipeE E vs) fun E2 => rt E2 fun b => if b = true then re E2 fun y => acc.length < sizeLine ∧ I (i + 1) (acc ++ [y]) else I (i + 1) acc) ∧ ∀ acc, I xs.length acc → q (.list acc)
theorem rLc_of {rg : DRG} (no : NoOwn E vs) (h : ri E (LcB vs rg rt re E q)) : rLc vs ri rg rt re E q := ⟨no, h⟩
/-- [e for x in xs], e one of G -/
theorem lcB_rel {G : PyData → PyData → Prop} (xs : List PyData) (hi : i < E.length) (hl : xs.length ≤ sizeLine) (hre : ∀ d ∈ xs, ∀ q' : PyData → Prop, (∀ y, G d y → q' y) → re ((wipeE E vs).set i (.d d)) q') (hq : ∀ ys, Paired G xs ys → q (.list ys)) : LcB vs (rgN i) rtYes re E q xs := by
  refine ⟨fun k acc => Paired G (xs.take k) acc, .nil, fun k d acc hd hI => ⟨by rw [wipeE_len]; exact hi, ?_⟩, fun acc h => ?_⟩
  · dsimp only [rtYes]
    refine iteT (hre d (List.mem_of_getElem? hd) _ fun y hy => ⟨?_, ?_⟩)
    · have h1 := Paired.length hI
      have h2 := (List.getElem?_eq_some_iff.mp hd).1
      rw [List.length_take] at h1
      omega
    · rw [List.take_succ, hd]
      exact paired_app hI (.cons hy .nil)
  · dsimp only at h
    rw [List.take_length] at h
    exact hq acc h
/-- [e for x in xs if t] -/
theorem rLc_filter {g : PyData → PyData} (xs : List PyData) (no : NoOwn E vs) (hi : i < E.length) (hl : xs.length ≤ sizeLine) (hri : ∀ q' : List PyData → Prop, q' xs → ri E q') (hrt : ∀ d ∈ xs, ∀ q' : Bool → Prop, q' (p d) → rt ((wipeE E vs).set i (.d d)) q') (hre : ∀ d ∈ xs, p d = true → ∀ q' : PyData → Prop, q' (g d) → re ((wipeE E vs).set i (.d d)) q') (hq : q (.list ((xs.filter p).map g))) : rLc vs ri (rgN i) rt re E q := by
  refine ⟨no, hri _ ⟨fun k acc => acc = ((xs.take k).filter p).map g, rfl, fun k d acc hd hI => ⟨by rw [wipeE_len]; exact hi, ?_⟩, fun acc h => ?_⟩⟩
  · have hm := List.mem_of_getElem? hd
    refine hrt d hm _ ?_
    by_cases h : p d = true
    · rw [if_pos h]
      refine hre d hm h _ ⟨?_, ?_⟩
      · have h2 := (List.getElem?_eq_some_iff.mp hd).1
        have h3 := List.length_filter_le p (xs.take k)
        rw [List.length_take] at h3
        rw [hI, List.length_map]
        omega
      · dsimp only at hI ⊢
        rw [List.take_succ, hd, List.filter_append, List.map_append, hI]
        simp [h]
    · rw [if_neg h]
      dsimp only at hI ⊢
      rw [List.take_succ, hd, List.filter_append, List.map_append, hI]
      simp [h]
  · dsimp only at h
    rw [List.take_length] at h
    rw [h]
    exact hq
end
end Zk

set_option maxHeartbeats 1000000
/-! V16: texts of single signs joined. -/
namespace Zk
open PySem PySem.Spec PyProof.Rows L2 GxR TL SX
theorem joinL_ones : ∀ zs : List Nat, joinL [] (zs.map fun c => [c]) = zs
  | [] => rfl
  | [c] => rfl
  | c :: d :: r => by
    have := joinL_ones (d :: r)
    simp only [List.map_cons] at this ⊢
    show [c] ++ [] ++ joinL [] ([d] :: r.map fun c => [c]) = _
    rw [this]
    rfl
def one (c : Nat) : Str := ⟨#[c]⟩
theorem join_ones (zs : List Nat) : Txt.join "" (zs.map one) = S zs := by
  have h := join_S [] (zs.map fun c => [c])
  rw [joinL_ones, List.map_map] at h
  exact h
theorem ones_of {α : Type} {P : Nat → Prop} : ∀ {xs : List α} {ys : List PyData}, Paired (fun _ y => ∃ c, P c ∧ y = .str ⟨#[c]⟩) xs ys → ∃ zs : List Nat, ys = (zs.map one).map PyData.str ∧ (∀ c ∈ zs, P c) ∧ zs.length = xs.length
  | _, _, .nil => ⟨[], rfl, (fun c h => by cases h), rfl⟩
  | _, _, .cons ⟨c, hc, e⟩ t => by
    obtain ⟨zs, e2, h, hl⟩ := ones_of t
    exact ⟨c :: zs, by rw [e, e2]; rfl, fun d hd => (List.mem_cons.mp hd).elim (fun z => z ▸ hc) (h d), by simp [hl]⟩
theorem ones_sum (zs : List Nat) : ((zs.map one).map (·.length)).sum = zs.length := by
  induction zs with
  | nil => rfl
  | cons c zs ih =>
    simp only [List.map_cons, List.sum_cons, ih, List.length_cons]
    have : (one c).length = 1 := rfl
    omega
end Zk

set_option maxHeartbeats 1000000
/-! V17: statements one at a time. -/
namespace Zk
open PySem PySem.Spec PyProof.Rows L2 GxR TL SX
section
variable {rt : DRT} {r1 rn r2 : DRS} {K : DEnds} {E : DEnv}
/-- an if whose test fails, and the rest -/
theorem seq_skip (h : ∀ k : Bool → Prop, k false → rt E k) (hr : r2 K E) : rSeq (rIfS rt r1 rNil) r2 K E := h _ (iteF hr)
/-- an if whose test holds -/
theorem seq_take (h : ∀ k : Bool → Prop, k true → rt E k) (hb : r1 { K with nx := r2 K } E) : rSeq (rIfS rt r1 rn) r2 K E := h _ (iteT hb)
theorem seq_else (h : ∀ k : Bool → Prop, k false → rt E k) (hb : rn { K with nx := r2 K } E) : rSeq (rIfS rt r1 rn) r2 K E := h _ (iteF hb)
/-- an if that may go either way -/
theorem seq_both (h : ∀ k : Bool → Prop, (∀ b, k b) → rt E k) (hb : r1 { K with nx := r2 K } E) (hr : r2 K E) : rSeq (rIfS rt r1 rNil) r2 K E := h _ fun b => by
  cases b with
  | true => exact iteT hb
  | false => exact iteF hr
theorem seq_may (P : Prop) (h : ∀ k : Bool → Prop, k false → (P → k true) → rt E k) (hb : P → r1 { K with nx := r2 K } E) (hr : r2 K E) : rSeq (rIfS rt r1 rNil) r2 K E := h _ (iteF hr) fun p => iteT (hb p)
theorem and_skip {rt' : DRT} (h : ∀ k : Bool → Prop, k false → rt E k) (k : Bool → Prop) (hk : k false) : rtAnd rt rt' E k := h _ (iteF hk)
theorem and_go {rt' : DRT} (h : ∀ k : Bool → Prop, k true → rt E k) (k : Bool → Prop) (h2 : rt' E k) : rtAnd rt rt' E k := h _ (iteT h2)
end
/-! ### picks -/
theorem pick_lst {xs : List PyData} {q : PyData → Prop} (h0 : 0 < xs.length) (h1 : xs.length ≤ 100) (h : ∀ d ∈ xs, q d) : RPick [.list xs] q := .inl ⟨xs, .inl rfl, h0, Nat.le_trans h1 (by decide), h⟩
/-- constants that are small -/
def tiny (d : PyData) : Bool := good 10 128 d && (decide (d.depth ≤ 2) && decide (sz d ≤ 300))
theorem tiny_nice {B a b : Nat} {d : PyData} (h : tiny d = true) (hB : 10 ≤ B) (ha : 2 ≤ a) (hb : 300 ≤ b) : Nice B 128 a b d := by
  simp only [tiny, Bool.and_eq_true, decide_eq_true_eq] at h
  exact ⟨good_mono hB (Nat.le_refl _) h.1, by omega, by omega⟩
theorem pick_tiny {xs : List PyData} {q : PyData → Prop} (h : xs.all tiny = true) (h0 : decide (0 < xs.length) = true) (h1 : decide (xs.length ≤ 100) = true) (hq : ∀ d, tiny d = true → q d) : RPick [.list xs] q := pick_lst (of_decide_eq_true h0) (of_decide_eq_true h1) fun d hd => hq d (List.all_eq_true.mp h d hd)
/-! ### texts of numbers, texts in capitals -/
theorem int_text_ascii (i : Int) : ∀ c ∈ ((toString i : String) : Str).cps.toList, c < 128 := fun c hc => by
  refine Decidable.byContradiction fun n => ?_
  exact int_text_free' c (by omega) i hc
theorem upper_small {x : Str} (h : ∀ c ∈ x.cps.toList, c < 128) : ∀ c ∈ (Txt.upper x).cps.toList, c < 128 := fun c hc => by
  rw [upper_ascii h] at hc
  simp only [Array.toList_map, List.mem_map] at hc
  obtain ⟨d, hd, rfl⟩ := hc
  have := h d hd
  unfold up1
  split <;> omega
theorem cut_small {U : Nat} {z : Str} {lo hi : Option Int} (h : ∀ c ∈ z.cps.toList, c < U) : ∀ c ∈ (cutS z lo hi).cps.toList, c < U := fun c hc => by
  unfold cutS at hc
  exact h c (List.mem_of_mem_drop (List.mem_of_mem_take (by simpa using hc)))
theorem cat_small {U : Nat} {x y : Str} (h : ∀ c ∈ x.cps.toList, c < U) (k : ∀ c ∈ y.cps.toList, c < U) : ∀ c ∈ (x ++ y).cps.toList, c < U := fun c hc => by
  have : (x ++ y).cps.toList = x.cps.toList ++ y.cps.toList := by
    show (x.cps ++ y.cps).toList = _
    simp
  rw [this] at hc
  exact (List.mem_append.mp hc).elim (h c) (k c)
theorem nice_of_str {B U a b : Nat} {x : Str} (h : Nice B U a b (.str x)) : (∀ c ∈ x.cps.toList, c < U) ∧ 10 * x.length + 2 ≤ b := by
  refine ⟨fun c hc => ?_, by have := h.sz; simpa only [sz] using this⟩
  have := h.g
  unfold good at this
  exact of_decide_eq_true (List.all_eq_true.mp this c hc)
theorem nice_of_int {B U a b : Nat} {i : Int} (h : Nice B U a b (.int i)) : i.natAbs ≤ B := by
  have := h.g
  simpa [good] using this
theorem szAll_at : ∀ {xs : List PyData} {j : Nat} (h : j < xs.length), szAll (xs.take j) + (sz xs[j] + 2) + szAll (xs.drop (j + 1)) = szAll xs
  | x :: xs, 0, _ => by simp [szAll]
  | x :: xs, j + 1, h => by
    have := szAll_at (xs := xs) (j := j) (by simpa using h)
    simp only [List.take_succ_cons, szAll, List.getElem_cons_succ, List.drop_succ_cons] at this ⊢
    omega
theorem cut_to {α : Type} (xs : List α) {j : Nat} (h : j < xs.length) : cutL xs none (some (j : Int)) = xs.take j := by
  have e : HT.sIx xs.length xs.length (some (j : Int)) = j := (HT.sIx_nat xs.length xs.length j).trans (by omega)
  unfold cutL
  rw [HT.sIx_none, e]
  simp
theorem cut_from {α : Type} (xs : List α) {j : Nat} (h : j < xs.length) : cutL xs (some ((j : Int) + 1)) none = xs.drop (j + 1) := by
  have e : HT.sIx xs.length 0 (some ((j + 1 : Nat) : Int)) = j + 1 := (HT.sIx_nat xs.length 0 (j + 1)).trans (by omega)
  unfold cutL
  rw [HT.sIx_none]
  have : ((j : Int) + 1) = ((j + 1 : Nat) : Int) := by omega
  rw [this, e]
  exact List.take_of_length_le (by simp)
end Zk

set_option maxHeartbeats 1000000
/-! V18: the signs of what repr shows. -/
namespace Zk
open PySem PySem.Spec PyProof.Rows L2 GxR TL SX
abbrev Sml8 (x : Str) : Prop := ∀ c ∈ x.cps.toList, c < 16 ^ 8
theorem char_small (x : Char) : x.toNat < 16 ^ 8 := by
  have h := x.valid
  have : x.toNat < 0x110000 := by
    show x.val.toNat < 0x110000
    rcases h with h | ⟨_, h⟩
    · exact Nat.lt_trans h (by decide)
    · exact h
  omega
theorem ofString_small8 (s : String) : Sml8 (Str.ofString s) := by
  have e : (Str.ofString s).cps.toList = s.toList.map Char.toNat := by
    rw [PySem.Str.ofString_eq_toList]
  intro c hc
  rw [e] at hc
  obtain ⟨x, _, rfl⟩ := List.mem_map.mp hc
  exact char_small x
theorem reprChar_small (q c : Nat) (hq : q < 16 ^ 8) (hc : c < 16 ^ 8) : ∀ d ∈ Builtin.Str.reprChar q c, d < 16 ^ 8 := by
  have dg : ∀ (l : List Char) (n : Nat), ∀ d ∈ List.replicate n 48 ++ l.map Char.toNat, d < 16 ^ 8 := fun l n d hd => by
    rcases List.mem_append.mp hd with h | h
    · rw [List.eq_of_mem_replicate h]; decide
    · obtain ⟨x, _, rfl⟩ := List.mem_map.mp h
      exact char_small x
  intro d hd
  unfold Builtin.Str.reprChar at hd
  dsimp only at hd
  repeat' split at hd
  all_goals first
    | (simp only [List.mem_cons, List.not_mem_nil, or_false] at hd; rcases hd with rfl | rfl <;> omega)
    | (simp only [List.mem_cons, List.not_mem_nil, or_false] at hd; subst hd; omega)
    | (rcases List.mem_append.mp hd with h | h
       · simp only [List.mem_cons, List.not_mem_nil, or_false] at h
         rcases h with rfl | rfl <;> omega
       · exact dg _ _ _ h)
theorem fold_small (q : Nat) (hq : q < 16 ^ 8) : ∀ (l : List Nat) (acc : Array Nat), (∀ c ∈ l, c < 16 ^ 8) → (∀ c ∈ acc.toList, c < 16 ^ 8) → ∀ c ∈ (l.foldl (fun out c => out ++ (Builtin.Str.reprChar q c).toArray) acc).toList, c < 16 ^ 8
  | [], acc, _, h => h
  | x :: l, acc, hl, h => by
    rw [List.foldl_cons]
    refine fold_small q hq l _ (fun c hc => hl c (List.mem_cons_of_mem _ hc)) fun c hc => ?_
    rw [Array.toList_append] at hc
    rcases List.mem_append.mp hc with hc | hc
    · exact h c hc
    · exact reprChar_small q x hq (hl x List.mem_cons_self) c (by simpa using hc)
theorem reprText_small {x : Str} (h : Sml8 x) : Sml8 (reprText x) := fun c hc => by
  have hq : reprQuote x < 16 ^ 8 := by
    unfold reprQuote
    split <;> decide
  unfold reprText at hc
  simp only [Array.toList_push, List.mem_append, List.mem_singleton] at hc
  rcases hc with hc | rfl
  · rw [← Array.foldl_toList] at hc
    exact fold_small _ hq _ _ h (by simp; exact hq) c hc
  · exact hq
theorem text_small : ∀ (ts : List Str) (k : Nat) (acc : Str), (∀ t ∈ ts, Sml8 t) → Sml8 acc → Sml8 (textFrom k acc ts)
  | [], _, acc, _, h => h
  | t :: ts, k, acc, ht, h => text_small ts (k + 1) _ (fun u hu => ht u (List.mem_cons_of_mem _ hu)) (cat_small (cat_small h (by split <;> exact ofString_small8 _)) (ht t List.mem_cons_self))
theorem join_small {y : Str} (hy : Sml8 y) : ∀ {l : List Str}, (∀ x ∈ l, Sml8 x) → Sml8 (Str.join y l)
  | [], _ => fun c hc => by simp [Str.join, Str.empty] at hc
  | [x], h => h x List.mem_cons_self
  | x :: z :: r, h => by
    show Sml8 (x ++ y ++ Str.join y (z :: r))
    exact cat_small (cat_small (h x List.mem_cons_self) hy) (join_small hy fun u hu => h u (List.mem_cons_of_mem _ hu))
section
variable {B U : Nat} (hU : U ≤ 16 ^ 8)
include hU
mutual
theorem shown_small : ∀ (d : PyData), good B U d = true → Sml8 d.shown
  | .none, _ => by simp only [PyData.shown]; exact ofString_small8 _
  | .bool b, _ => by cases b <;> (simp only [PyData.shown]; exact ofString_small8 _)
  | .int i, _ => by simp only [PyData.shown]; exact ofString_small8 _
  | .str x, h => by
    simp only [PyData.shown]
    refine reprText_small fun c hc => ?_
    unfold good at h
    exact Nat.lt_of_lt_of_le (of_decide_eq_true (List.all_eq_true.mp h c hc)) hU
  | .list xs, h => by
    simp only [PyData.shown]
    exact cat_small (text_small _ _ _ (shownAll_small xs (by simpa [good] using h)) (ofString_small8 _)) (ofString_small8 _)
  | .tuple xs, h => by
    simp only [PyData.shown]
    exact cat_small (cat_small (ofString_small8 _) (join_small (ofString_small8 _) (shownAll_small xs (by simpa [good] using h)))) (by split <;> exact ofString_small8 _)
  | .dict kvs, h => by
    simp only [PyData.shown]
    exact cat_small (cat_small (ofString_small8 _) (join_small (ofString_small8 _) (shownKv_small kvs (by simpa [good] using h)))) (ofString_small8 _)
theorem shownAll_small : ∀ (ds : List PyData), goodAll B U ds = true → ∀ t ∈ PyData.shownAll ds, Sml8 t
  | [], _, t, ht => by simp [PyData.shownAll] at ht
  | d :: r, h, t, ht => by
    have h : good B U d = true ∧ goodAll B U r = true := by simpa [goodAll] using h
    simp only [PyData.shownAll, List.mem_cons] at ht
    rcases ht with rfl | ht
    · exact shown_small d h.1
    · exact shownAll_small r h.2 t ht
theorem shownKv_small : ∀ (ds : List (PyData × PyData)), goodKv B U ds = true → ∀ t ∈ PyData.shownKv ds, Sml8 t
  | [], _, t, ht => by simp [PyData.shownKv] at ht
  | (k, v) :: r, h, t, ht => by
    have h : (good B U k = true ∧ good B U v = true) ∧ goodKv B U r = true := by simpa [goodKv] using h
    simp only [PyData.shownKv, List.mem_cons] at ht
    rcases ht with rfl | ht
    · exact cat_small (cat_small (shown_small k h.1.1) (ofString_small8 _)) (shown_small v h.1.2)
    · exact shownKv_small r h.2 t ht
end
end
/-- the text that repr shows, as data -/
theorem nice_shown {B U a b : Nat} {d : PyData} (h : Nice B U a b d) (hB : B < 2 ^ 1900) (hU : U ≤ 16 ^ 8) : Nice B (16 ^ 8) 0 (10 * b + 2) (.str d.shown) := nice_str (shown_small hU d h.g) (by have := (shown_sz hB hU d h.g).2; have := h.sz; omega)
theorem Nice.wide {B U U' a b : Nat} {d : PyData} (h : Nice B U a b d) (hu : U ≤ U') : Nice B U' a b d := ⟨good_mono (Nat.le_refl _) hu h.g, h.dp, h.sz⟩
end Zk

set_option maxHeartbeats 1000000
/-! V19: for, as a statement among others. -/
namespace Zk
open PySem PySem.Spec PyProof.Rows L2 GxR
section
variable {ri : DRI} {rg : DRG} {rb r2 : DRS} {K : DEnds} {E : DEnv}
theorem one_for (xs : List PyData) (I : Nat → DEnv → Prop) (hri : ∀ q' : List PyData → Prop, q' xs → ri E q') (h0 : I 0 E) (step : ∀ i d E', xs[i]? = some d → I i E' → rg d E' fun E2 => rb { K with nx := I (i + 1), ct := I (i + 1), bk := K.nx } E2) (fin : ∀ E', I xs.length E' → K.nx E') : rFor ri rg rb K E := hri _ ⟨I, h0, step, fin⟩
theorem seq_for (xs : List PyData) (I : Nat → DEnv → Prop) (hri : ∀ q' : List PyData → Prop, q' xs → ri E q') (h0 : I 0 E) (step : ∀ i d E', xs[i]? = some d → I i E' → rg d E' fun E2 => rb { K with nx := I (i + 1), ct := I (i + 1), bk := r2 K } E2) (fin : ∀ E', I xs.length E' → r2 K E') : rSeq (rFor ri rg rb) r2 K E := hri _ ⟨I, h0, step, fin⟩
end
theorem rng (n : Nat) {E : DEnv} (h : n < 2 ^ 62 := by decide) : ∀ q' : List PyData → Prop, q' (intsD 0 n) → riRange (rC (.int n)) E q' := fun q' hq => ⟨(n : Int), rfl, by omega, by omega, by simpa using hq⟩
end Zk

set_option maxHeartbeats 1000000
/-! V20: a dict of the module, from what the head says. -/
namespace Zk
open PySem PySem.Spec PyProof.Rows L2 GxR
theorem keys_find {ks : List Str} {P : Params} {z : Str} (hz : z ∉ ks) : ∀ {l : List DictEntry}, l.map He.keyOf = He.keysIn P ks → (l.find? (·.key.isStr z)) = none ∧ l.any (·.refKey) = false := fun {l} h => by
  have each : ∀ e ∈ l, ∃ x t, e.key = .str x t ∧ x ∈ ks := fun e he => by
    have : He.keyOf e ∈ He.keysIn P ks := h ▸ List.mem_map_of_mem he
    obtain ⟨k, hk, q⟩ := List.mem_map.mp this
    unfold He.keyOf at q
    split at q
    · next x t e1 =>
      have := Option.some.inj q
      exact ⟨x, t, e1, by rw [(Prod.mk.inj this).1] at hk; exact hk⟩
    · cases q
  refine ⟨List.find?_eq_none.mpr fun e he => ?_, List.any_eq_false.mpr fun e he => ?_⟩
  · obtain ⟨x, t, q, hx⟩ := each e he
    rw [q]
    intro y
    have : x = z := by simpa [Value.isStr] using y
    exact hz (this ▸ hx)
  · obtain ⟨x, t, q, hx⟩ := each e he
    show ¬ e.refKey = true
    unfold DictEntry.refKey
    rw [q]
    simp
theorem kmap_of {K : PySem.W.Frag} {w : World} {mg : Str → Option Value} {x : Str} {f : Str → Option Int} {d : Addr} {ks : List Str} (hm : mg x = some (.ref d)) (h : He.dicW K d = some (He.keysIn w.params ks))
    (hv : ∀ z ∈ ks, ∃ i t, f z = some i ∧ PySem.W.nsIn K d z = some (some (.int i t))) (hn : ∀ z, z ∉ ks → f z = none) : KMap K w mg x f := by
  obtain ⟨es, n, D⟩ := He.dicW_ok h
  have hk : es.toList.map He.keyOf = He.keysIn w.params ks := by
    unfold He.dicW at h
    rw [D.at_] at h
    dsimp only at h
    split at h
    · exact Option.some.inj h
    · cases h
  refine ⟨d, es, n, hm, D, fun z => ?_⟩
  by_cases hz : z ∈ ks
  · obtain ⟨i, t, e1, e2⟩ := hv z hz
    refine ⟨_, e2, ?_⟩
    rw [e1]
    exact ⟨t, rfl⟩
  · obtain ⟨q1, q2⟩ := keys_find hz hk
    refine ⟨none, ?_, ?_⟩
    · unfold PySem.W.nsIn
      rw [D.at_]
      dsimp only
      rw [q1, q2]
      rfl
    · rw [hn z hz]
end Zk

set_option maxHeartbeats 1000000
/-! V21: what is never reached. -/
namespace Zk
open PySem PySem.Spec PyProof.Rows L2 GxR
section
variable {X : Cx} {Ta : List Addr} {nm : Str} {e : Expr} {st : Stmt}
@[simp] def rsDead : DRS := fun _ _ => False
@[simp] def rDead : DR := fun _ _ => False
theorem ds_dead : PS X st (tDS Ta nm rsDead) := ⟨fun pins s σ H D I ⟨C, E, K, s', re, h⟩ => h.elim⟩
theorem dx_dead : PE X e (tD Ta nm rDead) := ⟨fun pins s σ H Q I ⟨C, E, q, s', h, _⟩ => h.elim⟩
end
end Zk

set_option maxHeartbeats 1000000
/-! V22: enumerate, zip. -/
namespace Zk
open PySem PySem.Spec PyProof.Rows L2 GxR RZ
section
variable {X : Cx} {Ta : List Addr} {nm : Str} {r r2 : DR} {e e2 : Expr} {pos p tpos : Pos} {elts : List Expr} {kk : Nat}
def enumD (xs : List PyData) : List PyData := xs.zipIdx.map fun p => .tuple [.int (p.2 : Nat), p.1]
theorem enum_get {xs : List PyData} {i : Nat} {d : PyData} (h : (enumD xs)[i]? = some d) : ∃ x, xs[i]? = some x ∧ d = .tuple [.int (i : Nat), x] := by
  unfold enumD at h
  rw [List.getElem?_map, List.getElem?_zipIdx] at h
  cases q : xs[i]? with
  | none => rw [q] at h; cases h
  | some x =>
    rw [q] at h
    refine ⟨x, rfl, ?_⟩
    have := Option.some.inj h
    simpa using this.symm
theorem enum_len {xs : List PyData} : (enumD xs).length = xs.length := by simp [enumD]
def pairsD (xs ys : List PyData) : List PyData := (xs.zip ys).map fun p => .tuple [p.1, p.2]
theorem pairs_get {xs ys : List PyData} {i : Nat} {d : PyData} (h : (pairsD xs ys)[i]? = some d) : ∃ x y, xs[i]? = some x ∧ ys[i]? = some y ∧ d = .tuple [x, y] := by
  unfold pairsD at h
  rw [List.getElem?_map] at h
  cases q : (xs.zip ys)[i]? with
  | none => rw [q] at h; cases h
  | some z =>
    rw [q] at h
    obtain ⟨x, y⟩ := z
    obtain ⟨h1, h2⟩ := List.getElem?_zip_eq_some.mp q
    exact ⟨x, y, h1, h2, (Option.some.inj h).symm⟩
theorem pairs_len {xs ys : List PyData} : (pairsD xs ys).length = min xs.length ys.length := by simp [pairsD]
theorem tup_item {Z : Addr → Prop} {H1 H2 : Hp} {T : Addr} {x y : V} {d d' : PyData} (hT : H2 T = none) (h : Sd (msk Z H1) x d) (h' : Sd (msk Z H1) y d') : Same H2 (upd H2 T (.tup [x, y])) ∧ (∀ b ps, H2 b = none → upd H2 T (.tup [x, y]) b ≠ some (.tbl ps)) ∧ ItemOk Z H1 H2 (upd H2 T (.tup [x, y])) (.ref T) (.tuple [d, d']) := by
  refine ⟨same_new hT _, fun b ps hb z => ?_, fun M up new => ?_⟩
  · by_cases q : b = T
    · rw [q, upd_same] at z; cases z
    · rw [upd_ne q, hb] at z; cases z
  · exact .tup (new T _ hT upd_same) (.cons (h.sm fun b o e n => up b o e n) (.cons (h'.sm fun b o e n => up b o e n) .nil))
@[simp] def riEnum (r : DR) : DRI := fun E q => r E fun d => ∃ xs, d = .list xs ∧ q (enumD xs)
theorem di_enum (hg : Gl X "enumerate") (hm : X.mg "enumerate" = none) (h : PE X e (tD Ta nm r)) (hs : starEach [e] X.env = [(false, eval e X.env)] := by rfl) : PI X (.Tuple elts kk tpos) (.Call (.Name "enumerate" p) [e] [] pos) (tDI Ta nm (riEnum r)) :=
  PIx.weak (pi_enum hg hm (pa_cons h pa_nil (hs := hs)) hs) fun σ H R ⟨C, E, q, s, hr, k⟩ => ⟨C, E, _, s, hr, fun d v H1 g1 k1 sd ⟨xs, ed, hq⟩ => by
    subst ed
    obtain ⟨a, vs, rfl, ha, sds⟩ := sd_lst sd
    obtain ⟨nz, ha'⟩ := msk_some.mp ha
    refine ⟨a, vs, rfl, SqL.of ha', k _ _ H1 g1 k1 (fun H2 i kp => ?_) hq⟩
    have h2 := SqL.of (K := X.K) (kp a _ ha' (fun _ z => nomatch z) nz)
    refine ⟨fun ei => ⟨vs, h2, by rw [sds.len, ei, enum_len]; exact Nat.le_refl _⟩, fun d hd => ?_⟩
    obtain ⟨x, hx, rfl⟩ := enum_get hd
    have hi := (List.getElem?_eq_some_iff.mp hx).1
    have hv : vs[i]? = some (vs[i]'(by rw [sds.len]; exact hi)) := List.getElem?_eq_getElem _
    refine ⟨⟨vs, _, h2, hv⟩, fun z H3 y => ?_⟩
    obtain ⟨T, w, rfl, hT, rfl, hw⟩ := y
    obtain ⟨d', e1, e2⟩ := sds.get (hw vs h2)
    rw [hx] at e1
    cases e1
    exact tup_item hT (.int _) e2⟩
/-- zip of two lists, or of two tuples -/
@[simp] def riZip (r r2 : DR) : DRI := fun E q => r E fun d => r2 E fun d' => ∃ xs ys, ((d = .list xs ∧ d' = .list ys) ∨ (d = .tuple xs ∧ d' = .tuple ys)) ∧ q (pairsD xs ys)
theorem di_zip (hg : Gl X "zip") (hm : X.mg "zip" = none) (h : PE X e (tD Ta nm r)) (h' : PE X e2 (tD Ta nm r2))
    (hs : starEach [e, e2] X.env = (false, eval e X.env) :: starEach [e2] X.env := by rfl) (hs2 : starEach [e2] X.env = [(false, eval e2 X.env)] := by rfl) (hpl : (backTo pos (starEach [e2] X.env)).any (·.1) = false := by rfl) :
    PI X (.Tuple elts kk tpos) (.Call (.Name "zip" p) [e, e2] [] pos) (tDI Ta nm (riZip r r2)) :=
  PIx.weak (pi_zipA hg hm (pa_cons h (pa_cons h' pa_nil (hs := hs2)) (hs := hs)) hs hpl) fun σ H R ⟨C, E, q, s, hr, k⟩ => ⟨C, E, _, s, hr, fun d v H1 g1 k1 sd hq1 => ⟨C, E, _, s.step g1 k1, hq1, fun d' v' H2 g2 k2 sd' ⟨xs, ys, hd, hq⟩ => by
    have sd := sd.sm (Go.zof (σ := σ) (E := E) g2)
    have g12 := g1.trans g2
    rcases hd with ⟨rfl, rfl⟩ | ⟨rfl, rfl⟩
    · obtain ⟨a, vs, rfl, ha, sds⟩ := sd_lst sd
      obtain ⟨b, ws, rfl, hb, sds'⟩ := sd_lst sd'
      obtain ⟨nz, ha'⟩ := msk_some.mp ha
      obtain ⟨nz', hb'⟩ := msk_some.mp hb
      refine ⟨a, b, vs, ws, rfl, .inl ⟨SqL.of ha', SqL.of hb', k _ _ H2 g12 k2 (fun H3 i kp => ?_) hq⟩⟩
      have h2 := SqL.of (K := X.K) (kp a _ ha' (fun _ z => nomatch z) nz)
      have h3 := SqL.of (K := X.K) (kp b _ hb' (fun _ z => nomatch z) nz')
      refine ⟨fun ei => ⟨vs, ws, h2, h3, by rw [sds.len, sds'.len]; rw [pairs_len] at ei; omega⟩, fun d hd => ?_⟩
      obtain ⟨x, y, hx, hy, rfl⟩ := pairs_get hd
      have hi := (List.getElem?_eq_some_iff.mp hx).1
      have hj := (List.getElem?_eq_some_iff.mp hy).1
      refine ⟨⟨vs, ws, _, _, h2, h3, List.getElem?_eq_getElem (by rw [sds.len]; exact hi), List.getElem?_eq_getElem (by rw [sds'.len]; exact hj)⟩, fun z H4 yy => ?_⟩
      obtain ⟨T, w, w', rfl, hT, rfl, hw, hw'⟩ := yy
      obtain ⟨d1, e1, e2⟩ := sds.get (hw vs h2)
      obtain ⟨d2, f1, f2⟩ := sds'.get (hw' ws h3)
      rw [hx] at e1
      rw [hy] at f1
      cases e1
      cases f1
      exact tup_item hT e2 f2
    · obtain ⟨a, vs, rfl, ha, sds⟩ := sd_tup sd
      obtain ⟨b, ws, rfl, hb, sds'⟩ := sd_tup sd'
      obtain ⟨nz, ha'⟩ := msk_some.mp ha
      obtain ⟨nz', hb'⟩ := msk_some.mp hb
      refine ⟨a, b, vs, ws, rfl, .inr ⟨SqT.of ha', SqT.of hb', k _ _ H2 g12 k2 (fun H3 i kp => ?_) hq⟩⟩
      have h2 := SqT.of (K := X.K) (kp a _ ha' (fun _ z => nomatch z) nz)
      have h3 := SqT.of (K := X.K) (kp b _ hb' (fun _ z => nomatch z) nz')
      refine ⟨fun ei => ⟨vs, ws, h2, h3, by rw [sds.len, sds'.len]; rw [pairs_len] at ei; omega⟩, fun d hd => ?_⟩
      obtain ⟨x, y, hx, hy, rfl⟩ := pairs_get hd
      have hi := (List.getElem?_eq_some_iff.mp hx).1
      have hj := (List.getElem?_eq_some_iff.mp hy).1
      refine ⟨⟨vs, ws, _, _, h2, h3, List.getElem?_eq_getElem (by rw [sds.len]; exact hi), List.getElem?_eq_getElem (by rw [sds'.len]; exact hj)⟩, fun z H4 yy => ?_⟩
      obtain ⟨T, w, w', rfl, hT, rfl, hw, hw'⟩ := yy
      obtain ⟨d1, e1, e2⟩ := sds.get (hw vs h2)
      obtain ⟨d2, f1, f2⟩ := sds'.get (hw' ws h3)
      rw [hx] at e1
      rw [hy] at f1
      cases e1
      cases f1
      exact tup_item hT e2 f2⟩⟩
end
end Zk

set_option maxHeartbeats 1000000
/-! V23: sum, max, min, sorted of rows. -/
namespace Zk
open PySem PySem.Spec PyProof.Rows L2 GxR
theorem sd_ints {M : Hp} : ∀ {ns : List Int} {vs : List V}, SdL M vs (ns.map PyData.int) → vs = ns.map V.int
  | [], _, h => by cases h; rfl
  | n :: ns, _, h => by
    cases h with
    | cons h t => rw [sd_int h, sd_ints t]; rfl
theorem ints_sd {M : Hp} : ∀ (ns : List Int), SdL M (ns.map V.int) (ns.map PyData.int)
  | [] => .nil
  | n :: ns => .cons (.int n) (ints_sd ns)
theorem strs_sd {M : Hp} : ∀ (ns : List Str), SdL M (ns.map V.str) (ns.map PyData.str)
  | [] => .nil
  | n :: ns => .cons (.str n) (strs_sd ns)
@[simp] def gSum : DGC := fun ds q => ∃ ns : List Int, ds = [.list (ns.map PyData.int)] ∧ q (.int ns.sum)
theorem callS_sum {K : PySem.W.Frag} : CallS (rSum K) gSum := fun Z H xs ds q Q _ sds ⟨ns, e, hq⟩ k => by
  subst e
  obtain ⟨v, rfl, s⟩ := sd1 sds
  obtain ⟨a, vs, rfl, ha, sv⟩ := sd_lst s
  have ev := sd_ints sv
  subst ev
  exact ⟨a, ns, rfl, SqL.of (msk_some.mp ha).2, k _ _ H (Same.refl _) (.int _) hq⟩
/-- max(xs), min(xs) of ints -/
def gMaxL : DGC := fun ds q => ∃ ns : List Int, ds = [.list (ns.map PyData.int)] ∧ 0 < ns.length ∧ ∀ m, m ∈ ns → (∀ y, y ∈ ns → y ≤ m) → q (.int m)
def gMinL : DGC := fun ds q => ∃ ns : List Int, ds = [.list (ns.map PyData.int)] ∧ 0 < ns.length ∧ ∀ m, m ∈ ns → (∀ y, y ∈ ns → m ≤ y) → q (.int m)
theorem callS_maxL {K : PySem.W.Frag} : CallS (rMax K) gMaxL := fun Z H xs ds q Q _ sds ⟨ns, e, h0, hq⟩ k => by
  subst e
  obtain ⟨v, rfl, s⟩ := sd1 sds
  obtain ⟨a, vs, rfl, ha, sv⟩ := sd_lst s
  have ev := sd_ints sv
  subst ev
  exact ⟨a, ns, rfl, SqL.of (msk_some.mp ha).2, h0, fun m h1 h2 => k _ _ H (Same.refl _) (.int _) (hq m h1 h2)⟩
theorem callS_minL {K : PySem.W.Frag} : CallS (rMin K) gMinL := fun Z H xs ds q Q _ sds ⟨ns, e, h0, hq⟩ k => by
  subst e
  obtain ⟨v, rfl, s⟩ := sd1 sds
  obtain ⟨a, vs, rfl, ha, sv⟩ := sd_lst s
  have ev := sd_ints sv
  subst ev
  exact ⟨a, ns, rfl, SqL.of (msk_some.mp ha).2, h0, fun m h1 h2 => k _ _ H (Same.refl _) (.int _) (hq m h1 h2)⟩
/-- sorted(xs): ints; texts (fewer than 64) -/
def gSortI : DGC := fun ds q => ∃ ns : List Int, ds = [.list (ns.map PyData.int)] ∧ ∀ ns' : List Int, ns'.Perm ns → ns'.Pairwise (· ≤ ·) → q (.list (ns'.map PyData.int))
theorem callS_sortI {K : PySem.W.Frag} : CallS (rSortedI K) gSortI := fun Z H xs ds q Q nz sds ⟨ns, e, hq⟩ k => by
  subst e
  obtain ⟨v, rfl, s⟩ := sd1 sds
  obtain ⟨a, vs, rfl, ha, sv⟩ := sd_lst s
  have ev := sd_ints sv
  subst ev
  exact ⟨a, ns, rfl, SqL.of (msk_some.mp ha).2, fun ns' p h1 h2 hp => k _ _ _ (same_new hp _) (.lst (msk_at (nz p hp)) (ints_sd ns')) (hq ns' h1 h2)⟩
def gSortS : DGC := fun ds q => ∃ zs : List Str, ds = [.list (zs.map PyData.str)] ∧ zs.length < 64 ∧ ∀ ys : List Str, ys.Perm zs → sortedS ys = true → q (.list (ys.map PyData.str))
theorem callS_sortS {K : PySem.W.Frag} : CallS (rSortedS K) gSortS := fun Z H xs ds q Q nz sds ⟨ns, e, hl, hq⟩ k => by
  subst e
  obtain ⟨v, rfl, s⟩ := sd1 sds
  obtain ⟨a, vs, rfl, ha, sv⟩ := sd_lst s
  have ev := sd_strs sv
  subst ev
  exact ⟨a, ns, rfl, SqL.of (msk_some.mp ha).2, hl, fun ys p h1 h2 hp => k _ _ _ (same_new hp _) (.lst (msk_at (nz p hp)) (strs_sd ys)) (hq ys h1 h2)⟩
end Zk

set_option maxHeartbeats 1000000
/-! V24: dicts of a slot's own. -/
namespace Zk
open PySem PySem.Spec PyProof.Rows L2 GxR
def valD {κ : Type} [DecidableEq κ] (es : List (κ × PyData)) (k : κ) : Option PyData := (es.find? fun kv => decide (kv.1 = k)).map (·.2)
def putD {κ : Type} [DecidableEq κ] (es : List (κ × PyData)) (k : κ) (d : PyData) : List (κ × PyData) :=
  if (es.any fun kv => decide (kv.1 = k)) = true then es.map (fun kv => if kv.1 = k then (kv.1, d) else kv) else es ++ [(k, d)]
def keyOfD : PyData → Option Key
  | .int i => some (.inl i)
  | .str z => some (.inr z)
  | _ => none
@[simp] theorem keyOfD_int (i : Int) : keyOfD (.int i) = some (.inl i) := rfl
@[simp] theorem keyOfD_str (z : Str) : keyOfD (.str z) = some (.inr z) := rfl
theorem key_v {M : Hp} {v : V} {d : PyData} {k : Key} (h : Sd M v d) (e : keyOfD d = some k) : v = kV k := by
  cases h <;> first | (cases e; rfl) | cases e
section
variable {M : Hp}
theorem SdKs.any {κ : Type} [DecidableEq κ] {k : κ} : ∀ {ks : List (κ × V)} {es : List (κ × PyData)}, SdKs M ks es → (ks.any fun kv => decide (kv.1 = k)) = es.any fun kv => decide (kv.1 = k)
  | _, _, .nil => rfl
  | _, _, .cons h t => by
    rw [List.any_cons, List.any_cons, SdKs.any t, h.1]
theorem SdKs.val {κ : Type} [DecidableEq κ] {k : κ} {d : PyData} : ∀ {ks : List (κ × V)} {es : List (κ × PyData)}, SdKs M ks es → valD es k = some d → ∃ v, valV ks k = some v ∧ Sd M v d
  | _, _, .nil, h => by cases h
  | p :: ks, q :: es, .cons h t, e => by
    by_cases z : q.1 = k
    · have : valD (q :: es) k = some q.2 := by simp [valD, List.find?_cons, z]
      rw [this] at e
      cases e
      exact ⟨p.2, valV_pos (h.1.trans z), h.2⟩
    · have : valD (q :: es) k = valD es k := by simp [valD, List.find?_cons, z]
      rw [this] at e
      obtain ⟨v, e1, e2⟩ := SdKs.val t e
      exact ⟨v, (valV_neg (fun y => z (h.1.symm.trans y))).trans e1, e2⟩
theorem SdKs.map {κ : Type} [DecidableEq κ] {k : κ} {v : V} {d : PyData} (sd : Sd M v d) : ∀ {ks : List (κ × V)} {es : List (κ × PyData)}, SdKs M ks es → SdKs M (ks.map fun kv => if kv.1 = k then (kv.1, v) else kv) (es.map fun kv => if kv.1 = k then (kv.1, d) else kv)
  | _, _, .nil => .nil
  | p :: ks, q :: es, .cons h t => by
    refine .cons ?_ (SdKs.map sd t)
    dsimp only
    by_cases z : q.1 = k
    · rw [if_pos z, if_pos (h.1.trans z)]
      exact ⟨h.1, sd⟩
    · rw [if_neg z, if_neg (fun y => z (h.1.symm.trans y))]
      exact h
theorem SdKs.put {κ : Type} [DecidableEq κ] {k : κ} {v : V} {d : PyData} {ks : List (κ × V)} {es : List (κ × PyData)} (h : SdKs M ks es) (sd : Sd M v d) : SdKs M (putK ks k v) (putD es k d) := by
  unfold putK putD
  rw [SdKs.any h]
  split
  · exact SdKs.map sd h
  · exact paired_app h (.cons ⟨rfl, sd⟩ .nil)
/-- the dict as data -/
def dictD (es : List (Key × PyData)) : PyData := .dict (es.map fun p => (keyD p.1, p.2))
theorem sdK_of : ∀ {ks : List (Key × V)} {es : List (Key × PyData)}, SdKs M ks es → SdK M ks (es.map fun p => (keyD p.1, p.2))
  | _, _, .nil => .nil
  | p :: ks, q :: es, .cons h t => by
    obtain ⟨k, v⟩ := p
    obtain ⟨k', d⟩ := q
    obtain ⟨h1, h2⟩ := h
    have h1 : k = k' := h1
    subst h1
    exact .cons h2 (sdK_of t)
end
section
variable {Ta : List Addr} {nm : Str} {C : DC Ta nm} {H H' : Hp} {σ : L2.St} {E : DEnv} {i : Nat} {d : PyData} {v : V} {a p : Addr}
/-- an own dict is data from now on -/
theorem St.freezeD (s : St C H σ E) {xs : List (Key × PyData)} (he : E[i]? = some (.dic xs)) : St C H σ (E.set i (.d (dictD xs))) := by
  obtain ⟨o, ho, a, vs, rfl, ha, sd, n0, n1⟩ := s.slot i _ he
  have il : i < E.length := (List.getElem?_eq_some_iff.mp he).1
  have zz : ∀ b, Zof C σ (E.set i (.d (dictD xs))) b → Zof C σ E b := fun b z => by
    rcases z with z | z | ⟨j, u, h1, h2, h3⟩
    · exact .inl z
    · exact .inr (.inl z)
    · rcases get_set h1 with ⟨rfl, rfl⟩ | ⟨ne, h1⟩
      · cases h2
      · exact .inr (.inr ⟨j, u, h1, h2, h3⟩)
  have nz : ¬ Zof C σ (E.set i (.d (dictD xs))) a := fun z => by
    rcases z with z | z | ⟨j, u, h1, h2, h3⟩
    · exact n1 z
    · exact s.wf.dk a z n0
    · rcases get_set h1 with ⟨rfl, rfl⟩ | ⟨ne, h1⟩
      · cases h2
      · exact s.dist i j _ u a ne he rfl h1 h2 ho h3
  have less : Sm (msk (Zof C σ E) H) (msk (Zof C σ (E.set i (.d (dictD xs)))) H) := msk_less zz
  refine ⟨s.wf, s.go, s.ok, by rw [List.length_set]; exact s.len, fun j u hu => ?_, fun j k u u' b ne h1 o1 h2 o2 h3 => ?_⟩
  · rcases get_set hu with ⟨rfl, rfl⟩ | ⟨ne, hu⟩
    · exact ⟨_, ho, .ref a, rfl, .dic (msk_some.mpr ⟨nz, ha⟩) (sdK_of (SdKs.sm less sd))⟩
    · obtain ⟨x, hx, z⟩ := s.slot j u hu
      exact ⟨x, hx, z.less less⟩
  · rcases get_set h1 with ⟨rfl, rfl⟩ | ⟨q1, h1⟩
    · cases o1
    rcases get_set h2 with ⟨rfl, rfl⟩ | ⟨q2, h2⟩
    · cases o2
    exact s.dist j k u u' b ne h1 o1 h2 o2 h3
theorem ownD_at (s : St C H σ E) {xs : List (Key × PyData)} (hx : E[i]? = some (.dic xs)) : ∃ a ks, σ[i]? = some (some (V.ref a)) ∧ H a = some (.dK ks) ∧ SdKs (msk (Zof C σ E) H) ks xs ∧ C.He a = none ∧ ¬ C.Z0 a := by
  obtain ⟨o, ho, a, ks, rfl, ha, sd, n0, n1⟩ := s.slot i _ hx
  exact ⟨a, ks, ho, ha, sd, n0, n1⟩
end
section
variable {X : Cx} {Ta : List Addr} {nm : Str} {e : Expr} {st : Stmt} {sts : List Stmt} {r ry rv : DR} {r1 : DRS} {pos p : Pos} {x : Str} {i : Nat}
/-- x = {} -/
@[simp] def rDNew (i : Nat) : DRS := fun K E => i < E.length ∧ K.nx (E.set i (.dic []))
theorem ds_dnew (h : PS X st (tAsg tDNewK (gName i))) : PS X st (tDS Ta nm (rDNew i)) := PS.weak h fun D σ H ⟨C, E, K, s, re, ⟨hi, hq⟩⟩ p hp =>
  re.nx _ _ _ (s.own (e := .dic []) (by rw [s.len]; exact hi) hp rfl fun M H' up h => ⟨p, [], rfl, h, .nil, s.he_none hp, fun z => s.new hp (.inl z)⟩) hq
/-- x[k] = e -/
@[simp] def rDPut (i : Nat) (ry rv : DR) : DRS := fun K E => rv E fun d => ∃ kvs, E[i]? = some (.dic kvs) ∧ ry E fun y => ∃ k, keyOfD y = some k ∧ kvs.length < sizeLine ∧ K.nx (E.set i (.dic (putD kvs k d)))
theorem ds_dput (h : PS X st (sDPut (tVar i) (tD Ta nm ry) (tD Ta nm rv))) : PS X st (tDS Ta nm (rDPut i ry rv)) := PS.weak h fun D σ H ⟨C, E, K, s, re, h⟩ =>
  ⟨C, E, _, s, h, fun d v H1 g1 k1 sd ⟨kvs, hx, hq⟩ => by
    have s1 := s.step g1 k1
    obtain ⟨a, ks, ho, ha, sk, n0, n1⟩ := ownD_at s1 hx
    refine ⟨_, ho, C, E, _, s1, hq, fun y u H2 g2 k2 sy ⟨k, ek, hl, hq⟩ => ?_⟩
    have s2 := s1.step g2 k2
    obtain ⟨a2, ks2, ho2, ha2, sk2, _, _⟩ := ownD_at s2 hx
    rw [ho] at ho2
    cases ho2
    rw [key_v sy ek]
    refine ⟨a, _, rfl, DPut.k ha2 (by rw [Paired.length sk2]; exact hl), ?_⟩
    exact re.nx _ _ _ (s2.write (e' := .dic (putD kvs k d)) hx rfl rfl ho n0 (fun ps z => by rw [ha2] at z; cases z) ⟨a, _, rfl, upd_same, sk2.put (sd.sm (Go.zof g2)), n0, n1⟩) hq⟩
/-- x[k] -/
@[simp] def rDGet (i : Nat) (r : DR) : DR := fun E q => ∃ kvs, E[i]? = some (.dic kvs) ∧ r E fun y => ∃ k d, keyOfD y = some k ∧ valD kvs k = some d ∧ q d
theorem dx_dget (hu : X.A.units + 1 < cLine) (hx : PE X (.Name x p) (tVar i)) (he : PE X e (tD Ta nm r)) (hs : NoSl e) : PE X (.Subscript (.Name x p) e pos) (tD Ta nm (rDGet i r)) := PE.weak (pe_dget hu hx he hs) fun σ H Q ⟨C, E, q, s, ⟨kvs, hx, hr⟩, k⟩ => by
  obtain ⟨a, ks, ho, ha, sk, n0, n1⟩ := ownD_at s hx
  refine ⟨_, ho, C, E, _, s, hr, fun y u H1 g1 k1 sy ⟨kk, d, ek, ed, hq⟩ => ?_⟩
  obtain ⟨a2, ks2, ho2, ha2, sk2, _, _⟩ := ownD_at (s.step g1 k1) hx
  rw [ho] at ho2
  cases ho2
  obtain ⟨v, ev, sv⟩ := sk2.val ed
  have z := DGet.k (k := kk) ha2
  rw [ev] at z
  rw [key_v sy ek]
  exact ⟨a, v, rfl, z, k d v H1 g1 k1 sv hq⟩
/-- from here on a slot's own dict is data -/
@[simp] def rFrzD (i : Nat) (r : DRS) : DRS := fun K E => ∃ xs, E[i]? = some (.dic xs) ∧ r K (E.set i (.d (dictD xs)))
theorem dss_frzD (h : PSs X sts (tDS Ta nm r1)) : PSs X sts (tDS Ta nm (rFrzD i r1)) := PSs.weak h fun D σ H ⟨C, E, K, s, re, ⟨xs, hx, h⟩⟩ => ⟨C, _, K, s.freezeD hx, re, h⟩
end
end Zk

set_option maxHeartbeats 1000000
/-! V25: match over tuples. -/
namespace Zk
open PySem PySem.Spec PyProof.Rows L2 GxR
/-- what a pattern's part asks: this text; a slot that takes whatever stands there; whatever -/
inductive PD where
  | str (z : Str) | cap (i : Nat) | any
def rEach : List PD → List PyData → (Option (List (Nat × PyData)) → Prop) → Prop
  | [], _, k => k (some [])
  | .str z :: ps, x :: xs, k => ∃ w, x = .str w ∧ if w = z then rEach ps xs k else k none
  | .cap i :: ps, x :: xs, k => rEach ps xs fun r => k (r.map ((i, x) :: ·))
  | .any :: ps, _ :: xs, k => rEach ps xs k
  | _ :: _, [], _ => False
def putAll (E : DEnv) : List (Nat × PyData) → DEnv
  | [] => E
  | p :: r => putAll (E.set p.1 (.d p.2)) r
theorem putAll_len : ∀ (bs : List (Nat × PyData)) (E : DEnv), (putAll E bs).length = E.length
  | [], _ => rfl
  | p :: r, E => by
    show (putAll (E.set p.1 (.d p.2)) r).length = _
    rw [putAll_len r, List.length_set]
section
variable {X : Cx}
/-- the parts of a pattern, told -/
inductive PPs (X : Cx) : List Pattern → List PD → Prop
  | nil : PPs X [] []
  | str {z : Str} {k} {p1 p2 : Pos} {ps : List Pattern} {pds : List PD} (h : PPs X ps pds) : PPs X (.MatchValue (.Constant (.str z) k p1) p2 :: ps) (.str z :: pds)
  | cap {i : Nat} {x : Str} {p : Pos} {ps : List Pattern} {pds : List PD} (hi : X.N[i]? = some x) (hx : Loc X.env.scope x) (hf : X.fn x = true ∨ X.env.scope.names.lookup x = some .local) (h : PPs X ps pds) : PPs X (.MatchAs none (some x) p :: ps) (.cap i :: pds)
  | any {p : Pos} {ps : List Pattern} {pds : List PD} (h : PPs X ps pds) : PPs X (.MatchAs none none p :: ps) (.any :: pds)
theorem PPs.cap' {i : Nat} {x : Str} {p : Pos} {ps : List Pattern} {pds : List PD} (h : PPs X ps pds) (hi : X.N[i]? = some x := by rfl) (hx : Loc X.env.scope x := by first | exact Or.inl rfl | exact Or.inr rfl) (hf : X.fn x = true ∨ X.env.scope.names.lookup x = some .local := by first | exact .inl rfl | exact .inr rfl) : PPs X (.MatchAs none (some x) p :: ps) (.cap i :: pds) := .cap hi hx hf h
theorem PPs.len {ps : List Pattern} {pds : List PD} (h : PPs X ps pds) : ps.length = pds.length := by
  induction h with
  | nil => rfl
  | str _ ih => exact congrArg Nat.succ ih
  | cap _ _ _ _ ih => exact congrArg Nat.succ ih
  | any _ ih => exact congrArg Nat.succ ih
theorem nostar_cons {p : Pattern} {ps : List Pattern} (h : p.isStar = false) (ih : ps.findIdx? (·.isStar) = none) : (p :: ps).findIdx? (·.isStar) = none := by
  rw [List.findIdx?_cons, h, if_neg (by decide), ih]
  rfl
theorem PPs.nostar {ps : List Pattern} {pds : List PD} (h : PPs X ps pds) : ps.findIdx? (·.isStar) = none := by
  induction h with
  | nil => rfl
  | str _ ih => exact nostar_cons rfl ih
  | cap _ _ _ _ ih => exact nostar_cons rfl ih
  | any _ ih => exact nostar_cons rfl ih
/-- what was captured -/
def CapR (X : Cx) (M : Hp) : List (Str × Value) → List (Nat × PyData) → Prop
  | [], [] => True
  | (x, u) :: r, (i, d) :: e => (X.N[i]? = some x ∧ Loc X.env.scope x ∧ (X.fn x = true ∨ X.env.scope.names.lookup x = some .local) ∧ ∃ v, RelV v u ∧ Sd M v d) ∧ CapR X M r e
  | _, _ => False
def CapO (X : Cx) (M : Hp) : Option (List (Str × Value)) → Option (List (Nat × PyData)) → Prop
  | none, none => True
  | some r, some e => CapR X M r e
  | _, _ => False
theorem each_run {M : Hp} {pins : List (Addr × Obj)} {σ : L2.St} {H : Hp} : ∀ {ps : List Pattern} {pds : List PD}, PPs X ps pds → ∀ {vs : List V} {us : List Value} {ds : List PyData} {s : Shared} {k : Option (List (Nat × PyData)) → Prop}, Inv X pins σ H s → Vals vs us → SdL M vs ds → rEach pds ds k →
    wpAny (model X.prog X.w) X.A (matchEach ps X.env us) (fun r s' => Inv X pins σ H s' ∧ ∃ o, CapO X M r o ∧ k o) X.xe s := fun {ps pds} hp => by
  induction hp with
  | nil =>
    intro vs us ds s k I rv sd h
    exact wpAny_matchEach_nil ⟨I, some [], trivial, by cases ds <;> exact h⟩
  | @str z kk p1 p2 ps pds h ih =>
    intro vs us ds s k I rv sd hk
    cases sd with
    | nil => exact hk.elim
    | cons s1 st =>
      cases rv with
      | cons r1 rt =>
        obtain ⟨w, rfl, hk⟩ := hk
        have e := sd_str s1
        subst e
        refine wpAny_matchEach_cons (wpAny_matchPattern_Value ?_)
        refine thn (pe_str.run pins s σ H _ I (show tC (V.str z) σ H (fun v H' => v = .str z ∧ H' = H) from ⟨rfl, rfl⟩)) ?_
        rintro x s1 ⟨v, H1, I1, r2, rfl, rfl⟩
        refine thn (op_eq pins s1 σ H1 _ _ _ _ (fun v H' => v = .bl (decide (w = z)) ∧ H' = H1) I1 r1 r2 ⟨rfl, by simp [eqV], rfl⟩) ?_
        rintro c s2 ⟨v, H2, I2, r3, rfl, rfl⟩
        cases r3
        refine wpAny_truthy_bool ?_
        by_cases hw : w = z
        · rw [if_pos hw] at hk
          rw [decide_eq_true hw, if_pos rfl]
          refine thn (ih I2 rt st hk) ?_
          rintro r s3 ⟨I3, o, c, ho⟩
          cases r with
          | none => exact ⟨I3, o, c, ho⟩
          | some more => exact ⟨I3, o, c, ho⟩
        · rw [if_neg hw] at hk
          rw [decide_eq_false hw, if_neg (by decide)]
          exact ⟨I2, none, trivial, hk⟩
  | @cap i x p ps pds hi hx hf h ih =>
    intro vs us ds s k I rv sd hk
    cases sd with
    | nil => exact hk.elim
    | cons s1 st =>
      cases rv with
      | cons r1 rt =>
        refine wpAny_matchEach_cons (wpAny_matchPattern_Capture ?_)
        refine thn (ih I rt st hk) ?_
        rintro r s3 ⟨I3, o, c, ho⟩
        cases r with
        | none =>
          cases o with
          | none => exact ⟨I3, none, trivial, ho⟩
          | some _ => exact c.elim
        | some more =>
          cases o with
          | none => exact c.elim
          | some e => exact ⟨I3, some ((i, _) :: e), (show CapR X M ((x, _) :: more) ((i, _) :: e) from ⟨⟨hi, hx, hf, _, r1, s1⟩, c⟩), ho⟩
  | @any p ps pds h ih =>
    intro vs us ds s k I rv sd hk
    cases sd with
    | nil => exact hk.elim
    | cons s1 st =>
      cases rv with
      | cons r1 rt =>
        refine wpAny_matchEach_cons (wpAny_matchPattern_Capture ?_)
        refine thn (ih I rt st hk) ?_
        rintro r s3 ⟨I3, o, c, ho⟩
        cases r with
        | none => exact ⟨I3, o, c, ho⟩
        | some more => exact ⟨I3, o, c, ho⟩
end
section
variable {X : Cx} {Ta : List Addr} {nm : Str}
theorem caps_run (hN : X.N.Nodup) {C : DC Ta nm} {H : Hp} {pins : List (Addr × Obj)} : ∀ {bs : List (Str × Value)} {e : List (Nat × PyData)} {σ : L2.St} {E : DEnv} {s : Shared}, Inv X pins σ H s → St C H σ E → CapR X (msk (Zof C σ E) H) bs e →
    wpAny (model X.prog X.w) X.A (assignInOrder (bs.map fun (n, _) => bindName X.env n) (bs.map (·.2))) (fun _ s' => ∃ σ', Inv X pins σ' H s' ∧ St C H σ' (putAll E e)) X.xe s
  | [], [], σ, E, s, I, st, _ => wpAny_assignInOrder_none ⟨σ, I, st⟩
  | [], _ :: _, _, _, _, _, _, h => h.elim
  | _ :: _, [], _, _, _, _, _, h => h.elim
  | (x, u) :: r, (i, d) :: e, σ, E, s, I, st, ⟨⟨hi, hx, hf, v, rv, sd⟩, h⟩ => by
    refine wpAny_assignInOrder_more (wpAny_bindName (store_ok I hN hi hx rv (fun s' I' => ?_) hf))
    have il : i < σ.length := by rw [I.len]; exact (List.getElem?_eq_some_iff.mp hi).1
    have st' := st.put il sd
    have less : Sm (msk (Zof C σ E) H) (msk (Zof C (σ.set i (some v)) (E.set i (.d d))) H) := msk_less fun b hb => zof_put hb
    have up : ∀ {bs : List (Str × Value)} {e : List (Nat × PyData)}, CapR X (msk (Zof C σ E) H) bs e → CapR X (msk (Zof C (σ.set i (some v)) (E.set i (.d d))) H) bs e := fun {bs} => by
      induction bs with
      | nil => intro e h; cases e <;> exact h
      | cons b bs ih =>
        intro e h
        cases e with
        | nil => exact h
        | cons q e =>
          obtain ⟨⟨a1, a2, a3, w, a4, a5⟩, h⟩ := h
          exact ⟨⟨a1, a2, a3, w, a4, a5.sm less⟩, ih h⟩
    exact caps_run (E := E.set i (.d d)) (e := e) hN I' st' (up h)
/-- cases of a match -/
structure PCs (X : Cx) (cs : List MatchCase) (t : V → TS) : Prop where
  run : ∀ (pins : List (Addr × Obj)) (s : Shared) (σ : L2.St) (H : Hp) (v : V) (u : Value) (D : Ends) (first : Bool), Inv X pins σ H s → RelV v u → t v D σ H → wpAny (model X.prog X.w) X.A (matchCases cs X.env u first) (SP X pins D) X.xe s
abbrev DRC := PyData → DRS
def tDC (Ta : List Addr) (nm : Str) (r : DRC) : V → TS := fun v D σ H => ∃ (C : DC Ta nm) (E : DEnv) (K : DEnds) (d : PyData), St C H σ E ∧ Real C D K ∧ Sd (msk (Zof C σ E) H) v d ∧ r d K E
@[simp] def rcNil : DRC := fun _ K E => K.nx E
@[simp] def rcAny (r : DRS) : DRC := fun _ K E => r K E
/-- a case; the subject stands behind it still, if the guard fails -/
def rcSeq (pds : List PD) (r : DRS) (rest : DRC) : DRC := fun d K E => ∃ xs, d = .tuple xs ∧ if xs.length = pds.length then rEach pds xs (fun o => match o with
    | none => rest d K E
    | some bs => r K (putAll E bs)) else rest d K E
variable {cs : List MatchCase} {ps : List Pattern} {pds : List PD} {body : List Stmt} {r : DRS} {rest : DRC} {p pos : Pos}
theorem dc_nil : PCs X [] (tDC Ta nm rcNil) := ⟨fun pins s σ H v u D first I rv ⟨C, E, K, d, st, re, sd, h⟩ => wpAny_matchCases_nil ⟨σ, H, I, re.nx σ H E st h⟩⟩
theorem dc_any (hb : PSs X body (tDS Ta nm r)) : PCs X (⟨.MatchAs none none p, none, body⟩ :: cs) (tDC Ta nm (rcAny r)) := ⟨fun pins s σ H v u D first I rv ⟨C, E, K, d, st, re, sd, h⟩ =>
  wpAny_matchCases_cons (wpAny_matchPattern_Capture (wpAny_assignInOrder_none (hb.run pins s σ H D I ⟨C, E, K, st, re, h⟩)))⟩
theorem dc_seq (hc : X.calm = true) (hN : X.N.Nodup) (hp : PPs X ps pds) (hb : PSs X body (tDS Ta nm r)) (hr : PCs X cs (tDC Ta nm rest)) (hwild : (ps.all fun p => p.isWildcard || (p.isStar && p.names.isEmpty)) = false := by rfl) : PCs X (⟨.MatchSequence ps p, none, body⟩ :: cs) (tDC Ta nm (rcSeq pds r rest)) := by
  refine ⟨fun pins s σ H v u D first I rv ⟨C, E, K, d, st, re, sd, xs, ed, h⟩ => ?_⟩
  subst ed
  obtain ⟨a, vs, rfl, ha, sds⟩ := sd_tup sd
  cases rv
  obtain ⟨its, rvs, ht, hz⟩ := I.tuple (SqT.of (msk_some.mp ha).2)
  have hle : its.length = xs.length := by rw [← rvs.length, sds.len]
  have fit : (its.toArray.size : Int) < 2 ^ 63 := by
    have : (sizeLine : Int) < 2 ^ 63 := by decide
    rw [List.size_toArray, ← rvs.length]
    omega
  refine wpAny_matchCases_cons ?_
  by_cases hl : xs.length = pds.length
  · rw [if_pos hl] at h
    have hn : its.toArray.size = ps.length := by rw [List.size_toArray, hle, hl, hp.len]
    refine matchSeq_tuple_hit ht fit hn ?_ hp.nostar hwild
    rw [← hn]
    refine unpackItems_tuple (I.ok.hd hc) (show IsTup s.heap a its.toArray from ht) fun h' hx => ?_
    have I1 : Inv X pins σ H { s with heap := h', toks := s.toks + 1 + 1 } := I.kept fun b o e => hx b o (Nat.ne_of_lt (Heap.lt_size e)) e
    refine thn (each_run hp I1 (by simpa using rvs) sds h) ?_
    rintro o s1 ⟨I2, oo, co, ho⟩
    cases o with
    | none =>
      cases oo with
      | some _ => exact co.elim
      | none => exact hr.run pins s1 σ H (.ref a) _ D false I2 rfl ⟨C, E, K, .tuple xs, st, re, .tup ha sds, ho⟩
    | some bs =>
      cases oo with
      | none => exact co.elim
      | some e => exact thn (caps_run hN I2 st co) fun _ s2 ⟨σ', I3, st'⟩ => hb.run pins s2 σ' H D I3 ⟨C, _, K, st', re, ho⟩
  · rw [if_neg hl] at h
    refine matchSeq_tuple_miss ht fit (by rw [List.size_toArray, hle, hp.len]; exact hl) ?_ hp.nostar hwild
    exact hr.run pins _ σ H (.ref a) _ D false (I.tok _) rfl ⟨C, E, K, .tuple xs, st, re, .tup ha sds, h⟩
@[simp] def rMatch (r : DR) (rc : DRC) : DRS := fun K E => r E fun d => rc d K E
theorem ds_match {e : Expr} {re : DR} {rc : DRC} (h : PE X e (tD Ta nm re)) (hc : PCs X cs (tDC Ta nm rc)) : PS X (.Match e cs pos) (tDS Ta nm (rMatch re rc)) := ⟨fun pins s σ H D I ⟨C, E, K, st, rl, hr⟩ =>
  wpAny_Match (thn (h.run pins s σ H _ I ⟨C, E, _, st, hr, fun d v H1 g1 k1 sd hq => (⟨C, E, K, d, st.step g1 k1, rl, sd, hq⟩ : tDC Ta nm rc v D σ H1)⟩) fun u s1 ⟨v, H1, I1, rv, h1⟩ => hc.run pins s1 σ H1 v u D true I1 rv h1)⟩
end
end Zk

set_option maxHeartbeats 1000000
/-! V26: sorted texts of any number; dicts that are data; more. -/
/-! ### texts, any number of them, sorted -/
namespace SrtO
open PySem PyProof.Rows Srt
section
variable {prog : Program} {w : World} {A : Around} {E : Value → Shared → Prop} {s : Shared}
def ltSv (v u : Value) : Bool := decide ((strOf v).cps.toList < (strOf u).cps.toList)
theorem swo_str : Swo ltSv := by
  refine ⟨fun x y h => ?_, fun x y z h1 h2 => ?_⟩
  · have a := of_decide_eq_true (p := (strOf x).cps.toList < (strOf y).cps.toList) h
    exact decide_eq_false (p := (strOf y).cps.toList < (strOf x).cps.toList) (List.lt_asymm a)
  · have a := of_decide_eq_false (p := (strOf y).cps.toList < (strOf x).cps.toList) h1
    have b := of_decide_eq_false (p := (strOf z).cps.toList < (strOf y).cps.toList) h2
    refine decide_eq_false (p := (strOf z).cps.toList < (strOf x).cps.toList) ?_
    exact List.not_lt.mpr (List.le_trans (List.not_lt.mp a) (List.not_lt.mp b))
theorem str_cmp {vs : List Value} {ss : List PySem.Str} (hI : StrsAre vs ss) : Cmp prog w A s oneType' (fun p => p.1 ∈ vs) (lt2 ltSv) := by
  intro p q hm hm'
  obtain ⟨a, t, e⟩ := hI.all _ hm
  obtain ⟨b, u, e'⟩ := hI.all _ hm'
  show wpAny (model prog w) A (keyLt' oneType' p.1 q.1) (fun r s' => s' = s ∧ r = ltSv p.1 q.1) (fun _ _ => False) s
  rw [e, e', keyLt'_oneType]
  exact oneLt_str ⟨rfl, rfl⟩
theorem strs_sortable {a : Addr} {vs : List Value} {ss : List PySem.Str} (hI : StrsAre vs ss) (h2 : 2 ≤ vs.length) : SortableO prog w A s a vs ltSv := by
  intro h' _
  refine ⟨oneType', fun Q E hq => ?_, str_cmp hI⟩
  match vs, hI, h2 with
  | v1 :: v2 :: rest, hI, _ =>
    rw [keyKind_strs hI]
    exact wpAny_pure hq
  | [], _, h => exact absurd h (by decide)
  | [v], _, h => exact absurd h (by simp)
theorem strs_out {vs out : List Value} {ss : List PySem.Str} (hI : StrsAre vs ss) (hs : Srtd ltSv out) (hb : Stb ltSv out vs) : StrsAre out (out.map strOf) ∧ (out.map strOf).Perm ss ∧ PyProof.Rows.sortedS (out.map strOf) = true := by
  refine ⟨strsAre_map _ fun v hv => hI.all v (hb.perm.mem_iff.mp hv), ?_, ?_⟩
  · have q := hb.perm.map strOf
    rw [hI.strs] at q
    exact q
  · refine sortedS_of_pairwise _ (List.pairwise_map.mpr (hs.imp fun {x y} h => ?_))
    rw [ltCps_eq]
    exact h
end
end SrtO
namespace Zk
open PySem PySem.Spec PyProof.Rows L2 GxR
def rSortedSn (K : PySem.W.Frag) : List V → Hp → VK → Prop := fun vs H Q => ∃ (a : Addr) (xs : List Str), vs = [V.ref a] ∧ SqL K H a (xs.map V.str) ∧
  ∀ (ys : List Str) (p : Addr), ys.Perm xs → PyProof.Rows.sortedS ys = true → H p = none → Q (.ref p) (upd H p (.lst (ys.map V.str)))
theorem cr_sortedSn {X : Cx} : CallR X (.builtin "sorted") (rSortedSn X.K) := by
  intro pins s σ H vs us Q I r h
  obtain ⟨a, ns, rfl, hs, q⟩ := h
  obtain ⟨its, rv, hl, hz⟩ := I.list hs
  rw [Vals.ref1 r]
  have hi := rv.strs
  refine SrtO.sorted_ord SrtO.swo_str hl.isList (by rw [← rv.length]; exact hz) (fun h2 h₁ a' _ _ => SrtO.strs_sortable hi h2) fun out h1 h2 => ?_
  obtain ⟨k1, k2, k3⟩ := SrtO.strs_out hi h1 h2
  obtain ⟨ep, he'⟩ := PyProof.Rows.sortedAll_at s.heap its out.toArray
  have hlen : ((out.map strOf).map V.str).length ≤ sizeLine := by
    rw [List.length_map, k2.length_eq]
    rw [List.length_map] at hz
    exact hz
  exact ⟨.ref _, upd H (s.heap.objs.size + 1) (.lst ((out.map strOf).map V.str)), I.laid (t' := s.toks) (fun _ _ => PyProof.Rows.sortedAll_old) (Nat.le_succ _) ⟨hlen, out, ep, vals_of_strs k1, he'⟩, rfl, q _ _ k2 k3 (I.hok.fresh (Nat.le_succ _))⟩
def gSortSn : DGC := fun ds q => ∃ zs : List Str, ds = [.list (zs.map PyData.str)] ∧ ∀ ys : List Str, ys.Perm zs → sortedS ys = true → q (.list (ys.map PyData.str))
theorem callS_sortSn {K : PySem.W.Frag} : CallS (rSortedSn K) gSortSn := fun Z H xs ds q Q nz sds ⟨ns, e, hq⟩ k => by
  subst e
  obtain ⟨v, rfl, s⟩ := sd1 sds
  obtain ⟨a, vs, rfl, ha, sv⟩ := sd_lst s
  have ev := sd_strs sv
  subst ev
  exact ⟨a, ns, rfl, SqL.of (msk_some.mp ha).2, fun ys p h1 h2 hp => k _ _ _ (same_new hp _) (.lst (msk_at (nz p hp)) (strs_sd ys)) (hq ys h1 h2)⟩
/-! ### range with a step of -1 -/
def downD (hi : Int) (n : Nat) : List PyData := (List.range n).map fun (i : Nat) => .int (hi - i)
theorem down_get {hi : Int} {n i : Nat} {d : PyData} : (downD hi n)[i]? = some d ↔ i < n ∧ d = .int (hi - i) := by
  unfold downD
  rw [List.getElem?_map]
  by_cases h : i < n
  · rw [List.getElem?_range h]
    simp [h, eq_comm]
  · rw [List.getElem?_eq_none (by simpa using h)]
    simp [h]
theorem down_len {hi : Int} {n : Nat} : (downD hi n).length = n := by simp [downD]
theorem walks_down {Z : Addr → Prop} {H1 : Hp} {lo : Int} {n : Nat} : Walks Z H1 (Itc lo (-1) n) (downD lo n) := fun H2 i kp => ⟨fun e => by rw [e, down_len]; exact Nat.le_refl _, fun d hd => by
  obtain ⟨hi, rfl⟩ := down_get.mp hd
  refine ⟨hi, fun x H3 y => ?_⟩
  obtain ⟨rfl, rfl⟩ := y
  refine ⟨Same.refl _, (fun b ps e1 e2 => by rw [e1] at e2; cases e2), fun M _ _ => ?_⟩
  have e : lo + (i : Nat) * (-1) = lo - (i : Nat) := by omega
  rw [e]
  exact .int _⟩
section
variable {X : Cx} {Ta : List Addr} {nm : Str} {a b c e tg : Expr} {ra rb rc r : DR} {p pos : Pos}
@[simp] def riDown (ra rb rc : DR) : DRI := fun E q => ra E fun d => rb E fun d' => rc E fun d'' => ∃ i j : Int, d = .int i ∧ d' = .int j ∧ d'' = .int (-1) ∧ (-(2 ^ 62) ≤ i ∧ i < 2 ^ 62 ∧ -(2 ^ 62) ≤ j ∧ j < 2 ^ 62) ∧ q (downD i (i - j).toNat)
theorem di_down (hg : Gl X "range") (hm : X.mg "range" = none) (ha : PE X a (tD Ta nm ra)) (hb : PE X b (tD Ta nm rb)) (hc : PE X c (tD Ta nm rc))
    (hs : starEach [a, b, c] X.env = (false, eval a X.env) :: starEach [b, c] X.env := by rfl) (hs2 : starEach [b, c] X.env = (false, eval b X.env) :: starEach [c] X.env := by rfl) (hs3 : starEach [c] X.env = (false, eval c X.env) :: starEach [] X.env := by rfl) (hpl : (backTo pos (starEach [b, c] X.env)).any (·.1) = false := by rfl) :
    PI X tg (.Call (.Name "range" p) [a, b, c] [] pos) (tDI Ta nm (riDown ra rb rc)) := PIx.weak (pi_range3 hg hm (pa_cons ha (pa_cons hb (pa_cons hc pa_nil (hs := hs3)) (hs := hs2)) (hs := hs)) hs hpl) fun σ H R ⟨C, E, q, s, hr, k⟩ =>
  ⟨C, E, _, s, hr, fun d v H1 g1 k1 sd hq1 => ⟨C, E, _, s.step g1 k1, hq1, fun d' v' H2 g2 k2 sd' hq2 => ⟨C, E, _, (s.step g1 k1).step g2 k2, hq2, fun d'' v'' H3 g3 k3 sd'' ⟨i, j, e1, e2, e3, hb, hq⟩ => by
    subst e1 e2 e3
    exact ⟨i, j, -1, _, by rw [sd_int sd, sd_int sd', sd_int sd''], RgC.neg hb.1 hb.2.1 hb.2.2.1 hb.2.2.2, k _ _ H3 ((g1.trans g2).trans g3) k3 walks_down hq⟩⟩⟩⟩
/-! ### tuple * int -/
def gRepT : DG2 := fun d e q => ∃ xs k, d = .tuple xs ∧ e = .int k ∧ xs ≠ [] ∧ 2 ≤ k ∧ k ≤ 1000 ∧ xs.length ≤ 1000 ∧ q (.tuple (List.replicate k.toNat xs).flatten)
theorem SdL.rep {M : Hp} {vs : List V} {ds : List PyData} (h : SdL M vs ds) : ∀ n : Nat, SdL M (List.replicate n vs).flatten (List.replicate n ds).flatten
  | 0 => .nil
  | n + 1 => by
    rw [List.replicate_succ, List.replicate_succ, List.flatten_cons, List.flatten_cons]
    exact h.app (SdL.rep h n)
theorem opS_repT {K : PySem.W.Frag} : OpS (rRepT K) gRepT := fun Z H x y d e q Q nz hx hy ⟨xs, k, e1, e2, h0, h1, h2, h3, hq⟩ kk => by
  subst e1 e2
  obtain ⟨a, vs, rfl, ha, sa⟩ := sd_tup hx
  refine ⟨a, k, vs, rfl, sd_int hy, SqT.of (msk_some.mp ha).2, fun e => h0 ?_, h1, h2, by rw [sa.len]; exact h3, fun p hp => kk _ _ _ (same_new hp _) (.tup (msk_at (nz p hp)) (SdL.same (msk_new hp) (sa.rep _))) hq⟩
  subst e
  cases sa
  rfl
/-! ### a dict that is data: d[k] -/
theorem keyD_inj {k k' : Key} (h : keyD k = keyD k') : k = k' := by
  cases k <;> cases k' <;> simp [keyD] at h <;> rw [h]
theorem sdKs_of {M : Hp} : ∀ {kvs : List (Key × PyData)} {ks : List (Key × V)}, SdK M ks (kvs.map fun p => (keyD p.1, p.2)) → SdKs M ks kvs
  | [], _, h => by cases h; exact .nil
  | (k, d) :: kvs, ks, h => by
    generalize e : ((k, d) :: kvs).map (fun p => (keyD p.1, p.2)) = es at h
    cases h with
    | nil => cases e
    | @cons k' v ks' d' es' h1 h2 =>
      have e1 : (keyD k, d) = (keyD k', d') := (List.cons.inj e).1
      have e2 := (List.cons.inj e).2
      rw [← e2] at h2
      have e3 := keyD_inj (Prod.mk.inj e1).1
      have e4 : d = d' := (Prod.mk.inj e1).2
      subst e3 e4
      exact .cons ⟨rfl, h1⟩ (sdKs_of h2)
theorem sd_dict {M : Hp} {v : V} {kvs : List (Key × PyData)} (h : Sd M v (dictD kvs)) : ∃ a ks, v = .ref a ∧ M a = some (.dK ks) ∧ SdKs M ks kvs := by
  unfold dictD at h
  generalize e : kvs.map (fun p => (keyD p.1, p.2)) = es at h
  cases h with
  | dic h1 h2 =>
    subst e
    exact ⟨_, _, rfl, h1, sdKs_of h2⟩
def rIxDict (r rk : DR) : DR := fun E q => r E fun d => rk E fun y => ∃ kvs k x, d = dictD kvs ∧ keyOfD y = some k ∧ valD kvs k = some x ∧ q x
theorem dx_ixDict (hu : X.A.units + 1 < cLine) (h : PE X a (tD Ta nm ra)) (hb : PE X b (tD Ta nm rb)) (hs : NoSl b) : PE X (.Subscript a b pos) (tD Ta nm (rIxDict ra rb)) := PE.weak (pe_dget hu h hb hs) fun σ H Q ⟨C, E, q, s, hr, k⟩ => ⟨C, E, _, s, hr, fun d v H1 g1 k1 sd hq1 => ⟨C, E, _, s.step g1 k1, hq1, fun y u H2 g2 k2 sy ⟨kvs, kk, x, ed, ek, ex, hq⟩ => by
  subst ed
  obtain ⟨a', ks, rfl, ha, sk⟩ := sd_dict (sd.sm (Go.zof (σ := σ) (E := E) g2))
  obtain ⟨v', ev, sv⟩ := sk.val ex
  have z := DGet.k (k := kk) (msk_some.mp ha).2
  rw [ev] at z
  rw [key_v sy ek]
  exact ⟨a', v', rfl, z, k x v' H2 (g1.trans g2) k2 sv hq⟩⟩⟩
/-- sorted(d), the keys texts, fewer than 64 -/
def gSortDict : DGC := fun ds q => ∃ (kvs : List (Key × PyData)) (zs : List Str), ds = [dictD kvs] ∧ kvs.map (·.1) = zs.map Sum.inr ∧ zs.length < 64 ∧ ∀ ys : List Str, ys.Perm zs → sortedS ys = true → q (.list (ys.map PyData.str))
/-! ### a, b = .., {} -/
@[simp] def rpD (rs : DRP) : DRP := fun E q => rs E fun ws => q (.dic [] :: ws)
end
end Zk

set_option maxHeartbeats 1000000
/-! V27: comprehensions over the keys of a dict that is data; own dicts beside values. -/
namespace Zk
open PySem PySem.Spec PyProof.Rows L2 GxR
section
variable {Ta : List Addr} {nm : Str} {C : DC Ta nm} {H H1 H' : Hp} {σ τ : L2.St} {E F : DEnv}
/-- a new dict beside them -/
theorem lc_insD {p : Addr} {vs : List (Key × V)} {ds : List (Key × PyData)} (s : St C H1 σ E) (hp : H1 p = none) (sds : SdKs (msk (Zof C σ E) H1) vs ds) (t : St (lcC C (upd H1 p (.dK vs)) σ E p) H' (σ ++ τ) (E ++ F)) : St C H' (σ ++ some (.ref p) :: τ) (E ++ .dic ds :: F) := by
  have nz := s.new hp
  have kept : ∀ b o, H1 b = some o → (∀ ps, o ≠ .tbl ps) → ¬ Own σ E b → ¬ C.Dk b → (lcC C (upd H1 p (.dK vs)) σ E p).He b = some o ∧ H' b = some o := fun b o e n no nd => by
    have e2 : upd H1 p (.dK vs) b = some o := (upd_ne (fun y : b = p => by rw [y, hp] at e; cases e)).trans e
    have e3 : (lcC C (upd H1 p (.dK vs)) σ E p).He b = some o := msk_some.mpr ⟨no, ntb_of e2 n⟩
    exact ⟨e3, t.go b o e3 n nd⟩
  have np : ¬ Own σ E p := fun o => nz (.inr (.inr o))
  have hep : (lcC C (upd H1 p (.dK vs)) σ E p).He p = some (.dK vs) := msk_some.mpr ⟨np, ntb_of upd_same fun _ z => nomatch z⟩
  have hp' : H' p = some (.dK vs) := t.go p _ hep (fun _ z => nomatch z) fun k => nz (.inr (.inl k))
  have heC : ∀ a, (lcC C (upd H1 p (.dK vs)) σ E p).He a = none → C.He a = none := fun a h => by
    cases q : C.He a with
    | none => rfl
    | some o =>
      have n : ∀ ps, o ≠ .tbl ps := fun ps z => s.wf.notb a ps (by rw [q, z])
      by_cases kd : C.Dk a
      · obtain ⟨o2, e2, n2⟩ := s.ok.at kd
        have : (lcC C (upd H1 p (.dK vs)) σ E p).He a = some o2 := msk_some.mpr ⟨(fun z => by rw [(own_none s z).1] at q; cases q), ntb_of ((upd_ne (fun y : a = p => by rw [y, hp] at e2; cases e2)).trans e2) n2⟩
        rw [this] at h
        cases h
      · have e1 := s.go a o q n kd
        rw [(kept a o e1 n (fun z => by rw [(own_none s z).1] at q; cases q) kd).1] at h
        cases h
  have zz : ∀ b, Zof C (σ ++ some (.ref p) :: τ) (E ++ .dic ds :: F) b → Zof (lcC C (upd H1 p (.dK vs)) σ E p) (σ ++ τ) (E ++ F) b := fun b z => by
    rcases z with z | z | ⟨i, e, h1, h2, h3⟩
    · exact .inl (.inl z)
    · exact .inr (.inl z)
    · rw [get_ins] at h1 h3
      rw [s.len] at h3
      by_cases i1 : i < E.length
      · rw [if_pos i1] at h1 h3
        exact .inr (.inr ⟨i, e, h1, h2, h3⟩)
      · rw [if_neg i1] at h1 h3
        by_cases i2 : i = E.length
        · rw [if_pos i2] at h1 h3
          cases h3
          exact .inl (.inr rfl)
        · rw [if_neg i2] at h1 h3
          exact .inr (.inr ⟨i - 1, e, h1, h2, h3⟩)
  have less : Sm (msk (Zof (lcC C (upd H1 p (.dK vs)) σ E p) (σ ++ τ) (E ++ F)) H') (msk (Zof C (σ ++ some (.ref p) :: τ) (E ++ .dic ds :: F)) H') := msk_less zz
  have hl := len_eq t s.len
  have toC : ∀ {o : Option V} {e : DV}, SlotOk (lcC C (upd H1 p (.dK vs)) σ E p) (msk (Zof (lcC C (upd H1 p (.dK vs)) σ E p) (σ ++ τ) (E ++ F)) H') H' o e → SlotOk C (msk (Zof C (σ ++ some (.ref p) :: τ) (E ++ .dic ds :: F)) H') H' o e := fun {o e} z => by
    cases e with
    | d x => obtain ⟨v, e, sd⟩ := z; exact ⟨v, e, sd.sm less⟩
    | deck => exact z
    | no => trivial
    | lst xs => obtain ⟨a, ws, e, h, sd, n0, n1⟩ := z; exact ⟨a, ws, e, h, sd.sm less, heC a n0, fun y => n1 (.inl y)⟩
    | dic xs => obtain ⟨a, ws, e, h, sd, n0, n1⟩ := z; exact ⟨a, ws, e, h, SdKs.sm less sd, heC a n0, fun y => n1 (.inl y)⟩
    | dct xs => obtain ⟨a, ws, e, h, sd, n0, n1⟩ := z; exact ⟨a, ws, e, h, SdKs.sm less sd, heC a n0, fun y => n1 (.inl y)⟩
  refine ⟨s.wf, fun b o e n nd => ?_, ⟨t.ok.tb, t.ok.dk⟩, by simp [hl, s.len], fun i e he => ?_, fun i j e e' a ne h1 o1 h2 o2 h3 => ?_⟩
  · exact (kept b o (s.go b o e n nd) n (fun z => by rw [(own_none s z).1] at e; cases e) nd).2
  · rw [get_ins] at he
    rw [get_ins, s.len]
    by_cases i1 : i < E.length
    · rw [if_pos i1] at he
      rw [if_pos i1]
      obtain ⟨o, ho, z⟩ := t.slot i e he
      exact ⟨o, ho, toC z⟩
    · rw [if_neg i1] at he
      rw [if_neg i1]
      by_cases i2 : i = E.length
      · rw [if_pos i2] at he
        rw [if_pos i2]
        cases he
        refine ⟨_, rfl, p, vs, rfl, hp', ?_, s.he_none hp, fun z => nz (.inl z)⟩
        refine SdKs.sm (fun b o e n => ?_) sds
        obtain ⟨z, e⟩ := msk_some.mp e
        obtain ⟨k1, k2⟩ := kept b o e n (fun y => z (.inr (.inr y))) (fun y => z (.inr (.inl y)))
        refine msk_some.mpr ⟨fun y => ?_, k2⟩
        rcases zz b y with (y | y) | y | y
        · exact z (.inl y)
        · rw [y, hp] at e; cases e
        · exact z (.inr (.inl y))
        · rw [(own_none t y).1] at k1
          cases k1
      · rw [if_neg i2] at he
        rw [if_neg i2]
        obtain ⟨o, ho, z⟩ := t.slot _ e he
        exact ⟨o, ho, toC z⟩
  · have off : ∀ (j : Nat) (u : DV) (a : Addr), (E ++ F)[j]? = some u → u.own = true → (σ ++ τ)[j]? = some (some (V.ref a)) → a ≠ p := fun j u a g1 g2 g3 y => by
      have := (own_none t (⟨j, u, g1, g2, g3⟩ : Own _ _ a)).2
      exact this (.inr y)
    have sp : ∀ (k : Nat) (u : DV) (a : Addr), (E ++ DV.dic ds :: F)[k]? = some u → u.own = true → (σ ++ some (V.ref p) :: τ)[k]? = some (some (V.ref a)) → (k = E.length ∧ a = p) ∨ (k ≠ E.length ∧ (E ++ F)[if k < E.length then k else k - 1]? = some u ∧ (σ ++ τ)[if k < E.length then k else k - 1]? = some (some (V.ref a))) := fun k u a g1 g2 g3 => by
      rw [get_ins] at g1 g3
      rw [s.len] at g3
      by_cases i1 : k < E.length
      · rw [if_pos i1] at g1 g3
        rw [if_pos i1]
        exact .inr ⟨by omega, g1, g3⟩
      · rw [if_neg i1] at g1 g3
        rw [if_neg i1]
        by_cases i2 : k = E.length
        · rw [if_pos i2] at g3
          cases g3
          exact .inl ⟨i2, rfl⟩
        · rw [if_neg i2] at g1 g3
          exact .inr ⟨i2, g1, g3⟩
    intro h4
    rcases sp i e a h1 o1 h3 with ⟨q1, q2⟩ | ⟨q1, q2, q3⟩
    · rcases sp j e' a h2 o2 h4 with ⟨r1, _⟩ | ⟨r1, r2, r3⟩
      · omega
      · exact off _ _ _ r2 o2 r3 q2
    · rcases sp j e' a h2 o2 h4 with ⟨r1, r2⟩ | ⟨r1, r2, r3⟩
      · exact off _ _ _ q2 o1 q3 r2
      · refine t.dist _ _ e e' a (fun y => ne ?_) q2 o1 r2 o2 q3 r3
        split at y <;> split at y <;> omega
end
section
variable {Ta : List Addr} {nm : Str} {X : Cx} {e : Expr} {es : List Expr} {p pos : Pos}
theorem dp_d {rs : DRP} (h' : PA X es (tPA Ta nm rs)) (hs : starEach (.Dict [] [] p :: es) X.env = (false, eval (.Dict [] [] p) X.env) :: starEach es X.env := by rfl) : PA X (.Dict [] [] p :: es) (tPA Ta nm (rpD rs)) := PA.weak (pa_cons pe_dnewK h' hs) fun σ H Q ⟨C, E, q, s, hr, k⟩ => fun a ha =>
  ⟨lcC C (upd H a (.dK [])) σ E a, E, _, lc_inO (oD := .dK []) (fun _ z => nomatch z) s (Same.go (same_new ha _)) (s.ok.same (same_new ha _)) ha upd_same, hr, fun ws vs H2 hl s2 hq => k (.dic [] :: ws) (.ref a :: vs) H2 (by simp [hl]) (lc_insD s ha .nil s2) hq⟩
end
/-! ### what leans on no locked thing -/
mutual
theorem Sd.nofrz {M M' : Hp} (s : ∀ b o, M b = some o → (∀ od u, o ≠ .frz od u) → M' b = some o) : ∀ {v : V} {d : PyData}, Sd M v d → Sd M' v d
  | _, _, .non => .non
  | _, _, .bl b => .bl b
  | _, _, .int i => .int i
  | _, _, .str x => .str x
  | _, _, .lst h t => .lst (s _ _ h (fun _ _ z => nomatch z)) (SdL.nofrz s t)
  | _, _, .tup h t => .tup (s _ _ h (fun _ _ z => nomatch z)) (SdL.nofrz s t)
  | _, _, .dic h t => .dic (s _ _ h (fun _ _ z => nomatch z)) (SdK.nofrz s t)
theorem SdL.nofrz {M M' : Hp} (s : ∀ b o, M b = some o → (∀ od u, o ≠ .frz od u) → M' b = some o) : ∀ {vs : List V} {ds : List PyData}, SdL M vs ds → SdL M' vs ds
  | _, _, .nil => .nil
  | _, _, .cons h t => .cons (Sd.nofrz s h) (SdL.nofrz s t)
theorem SdK.nofrz {M M' : Hp} (s : ∀ b o, M b = some o → (∀ od u, o ≠ .frz od u) → M' b = some o) : ∀ {ks : List (Key × V)} {es : List (PyData × PyData)}, SdK M ks es → SdK M' ks es
  | _, _, .nil => .nil
  | _, _, .cons h t => .cons (Sd.nofrz s h) (SdK.nofrz s t)
end
/-- data in one piece -/
def plainD : PyData → Bool
  | .list _ => false
  | .tuple _ => false
  | .dict _ => false
  | _ => true
theorem Sd.plain {M M' : Hp} {v : V} {d : PyData} (h : Sd M v d) (k : plainD d = true) : Sd M' v d := by
  cases h <;> first | exact .non | exact .bl _ | exact .int _ | exact .str _ | cases k
/-- the slots that a walk over a dict may read: what is in one piece, and the deck -/
def plainV : DV → DV
  | .d x => if plainD x = true then .d x else .no
  | .deck => .deck
  | _ => .no
def plainE (E : DEnv) : DEnv := E.map plainV
@[simp] theorem plainE_nil : plainE [] = [] := rfl
@[simp] theorem plainE_cons (a : DV) (l : DEnv) : plainE (a :: l) = plainV a :: plainE l := rfl
@[simp] theorem plainV_no : plainV .no = .no := rfl
@[simp] theorem plainV_deck : plainV .deck = .deck := rfl
@[simp] theorem plainV_int (i : Int) : plainV (.d (.int i)) = .d (.int i) := rfl
@[simp] theorem plainV_str (z : Str) : plainV (.d (.str z)) = .d (.str z) := rfl
@[simp] theorem plainV_bool (b : Bool) : plainV (.d (.bool b)) = .d (.bool b) := rfl
@[simp] theorem plainV_none : plainV (.d .none) = .d .none := rfl
@[simp] theorem plainV_tuple (xs : List PyData) : plainV (.d (.tuple xs)) = .no := rfl
@[simp] theorem plainV_list (xs : List PyData) : plainV (.d (.list xs)) = .no := rfl
@[simp] theorem plainV_dict (xs : List (PyData × PyData)) : plainV (.d (.dict xs)) = .no := rfl
@[simp] theorem plainV_dictD (xs : List (Key × PyData)) : plainV (.d (dictD xs)) = .no := rfl
theorem plainE_get {E : DEnv} {i : Nat} {e : DV} (h : (plainE E)[i]? = some e) : ∃ u, E[i]? = some u ∧ e = plainV u := by
  unfold plainE at h
  rw [List.getElem?_map] at h
  cases q : E[i]? with
  | none => rw [q] at h; cases h
  | some u => rw [q] at h; exact ⟨u, rfl, (Option.some.inj h).symm⟩
theorem plainV_own (u : DV) : (plainV u).own = false := by
  cases u with
  | d x => cases h : plainD x <;> (simp only [plainV, h]; rfl)
  | _ => rfl
theorem plainE_own {E : DEnv} {i : Nat} {e : DV} (h : (plainE E)[i]? = some e) : e.own = false := by
  obtain ⟨u, _, rfl⟩ := plainE_get h
  exact plainV_own u
section
variable {Ta : List Addr} {nm : Str} {C : DC Ta nm} {H H' : Hp} {σ : L2.St} {E : DEnv} {a : Addr} {ks : List (Key × V)} {od : Obj}
noncomputable def lockC (C : DC Ta nm) (H : Hp) (σ : L2.St) (E : DEnv) : DC Ta nm := ⟨C.dk, Zof C σ E, ntb H⟩
theorem lock_zof {b : Addr} (h : Zof C σ E b) : Zof (lockC C H σ E) σ (plainE E) b := .inl h
theorem zof_lock {b : Addr} (h : Zof (lockC C H σ E) σ (plainE E) b) : Zof C σ E b := by
  rcases h with h | h | ⟨i, e, h1, h2, _⟩
  · exact h
  · exact .inr (.inl h)
  · rw [plainE_own h1] at h2; cases h2
theorem lock_in (s : St C H σ E) (ha : H a = some (.dK ks)) (nz : ¬ Zof C σ E a) : St (lockC C (upd H a (.frz od (.dK ks))) σ E) (upd H a (.frz od (.dK ks))) σ (plainE E) := by
  have at' : ∀ b o, b ≠ a → H b = some o → upd H a (.frz od (.dK ks)) b = some o := fun b o n e => (upd_ne n).trans e
  have he : ∀ b, Zof C σ E b → (lockC C (upd H a (.frz od (.dK ks))) σ E).He b ≠ none := fun b z => by
    obtain ⟨o, e, n⟩ := s.zin z
    have e2 := at' b o (fun y => nz (by rw [← y]; exact z)) e
    show ntb _ b ≠ none
    rw [ntb_of e2 n]
    exact fun y => nomatch y
  have dkn : ∀ q, C.dk = some q → q.1 ≠ a ∧ q.2 ≠ a := fun q e => ⟨fun y => nz (y ▸ .inr (.inl ⟨q, e, .inl rfl⟩)), fun y => nz (y ▸ .inr (.inl ⟨q, e, .inr rfl⟩))⟩
  refine ⟨⟨fun b k => he b (.inr (.inl k)), fun b z => he b z, fun b ps e => (ntb_to e).2 ps rfl⟩, fun b o e _ _ => (ntb_to e).1, ⟨fun P hP => ?_, fun q hq => ?_⟩, by rw [plainE, List.length_map]; exact s.len, fun i e h => ?_, fun i j e e' b ne h1 o1 => by rw [plainE_own h1] at o1; cases o1⟩
  · obtain ⟨ps, e, t⟩ := s.ok.tb P hP
    exact ⟨ps, at' P _ (fun y => by rw [y, ha] at e; cases e) e, t⟩
  · obtain ⟨l, m, d, e1, e2, r⟩ := s.ok.dk q hq
    exact ⟨l, m, d, at' _ _ (dkn q hq).1 e1, at' _ _ (dkn q hq).2 e2, r⟩
  · obtain ⟨u, hu, rfl⟩ := plainE_get h
    obtain ⟨o, ho, z⟩ := s.slot i u hu
    refine ⟨o, ho, ?_⟩
    cases u with
    | d x =>
      cases hx : plainD x with
      | true =>
        rw [show plainV (.d x) = .d x from by simp only [plainV, hx]; rfl]
        obtain ⟨v, e, sd⟩ := z
        exact ⟨v, e, sd.plain hx⟩
      | false =>
        rw [show plainV (.d x) = .no from by simp only [plainV, hx]; rfl]
        trivial
    | deck => exact z
    | no => trivial
    | lst _ => trivial
    | dic _ => trivial
    | dct _ => trivial
theorem lock_out (s : St C H σ E) (ha : H a = some (.dK ks)) (nz : ¬ Zof C σ E a) (g : Go (lockC C (upd H a (.frz od (.dK ks))) σ E) (upd H a (.frz od (.dK ks))) H') (k : Ok (lockC C (upd H a (.frz od (.dK ks))) σ E) H') :
    H' a = some (.frz od (.dK ks)) ∧ Go C H (upd H' a (.dK ks)) ∧ Ok C (upd H' a (.dK ks)) := by
  have ea : H' a = some (.frz od (.dK ks)) := g a _ upd_same (fun _ z => nomatch z) fun k => nz (.inr (.inl k))
  have dkn : ∀ q, C.dk = some q → q.1 ≠ a ∧ q.2 ≠ a := fun q e => ⟨fun y => nz (y ▸ .inr (.inl ⟨q, e, .inl rfl⟩)), fun y => nz (y ▸ .inr (.inl ⟨q, e, .inr rfl⟩))⟩
  refine ⟨ea, fun b o e n d => ?_, fun P hP => ?_, fun q hq => ?_⟩
  · by_cases y : b = a
    · subst y
      rw [ha] at e
      cases e
      exact upd_same
    · exact (upd_ne y).trans (g b o ((upd_ne y).trans e) n d)
  · obtain ⟨ps, e, t⟩ := k.tb P hP
    exact ⟨ps, (upd_ne (fun y : P = a => by rw [y, ea] at e; cases e)).trans e, t⟩
  · obtain ⟨l, m, d, e1, e2, r⟩ := k.dk q hq
    exact ⟨l, m, d, (upd_ne (dkn q hq).1).trans e1, (upd_ne (dkn q hq).2).trans e2, r⟩
end
theorem walks_keys {Z : Addr → Prop} {H1 : Hp} {a : Addr} {od : Obj} {ks : List (Key × V)} (h : H1 a = some (.frz od (.dK ks))) (nz : ¬ Z a) : Walks Z H1 (Itk a od ks) (ks.map fun p => keyD p.1) := fun H2 i kp => by
  have h2 := kp a _ h (fun _ z => nomatch z) nz
  refine ⟨fun e => ⟨h2, by rw [e, List.length_map]; exact Nat.le_refl _⟩, fun d hd => ?_⟩
  have hi := (List.getElem?_eq_some_iff.mp hd).1
  rw [List.length_map] at hi
  refine ⟨⟨h2, hi⟩, fun x H3 y => ?_⟩
  obtain ⟨rfl, k, v, e, rfl⟩ := y
  rw [List.getElem?_map, e] at hd
  cases hd
  refine ⟨Same.refl _, (fun b ps e1 e2 => by rw [e1] at e2; cases e2), fun M _ _ => ?_⟩
  cases k
  · exact .int _
  · exact .str _
section
variable {X : Cx} {Ta : List Addr} {nm : Str} {elt tg : Expr} {x : Str} {ifs : List Expr} {scope : Scope} {own : List (Str × Nat)} {pos p : Pos} {g : TG} {rg : DRG} {gs : List Nat} {rt : DRT} {re : DR} {i : Nat}
/-- [.. for k in x ..], x a dict that is data -/
def rLcK (vs : List Nat) (i : Nat) (rg : DRG) (rt : DRT) (re : DR) : DR := fun E q => ∃ kvs, E[i]? = some (.d (dictD kvs)) ∧ rLc vs (fun _ q' => q' (kvs.map fun p => keyD p.1)) rg rt re (plainE E) q
theorem lck_run {vs : List Nat} (hgs : GS Ta nm gs g rg) (hsub : ∀ j ∈ gs, j ∈ vs) : ∀ σ H Q, tD Ta nm (rLcK vs i rg rt re) σ H Q → tLockE (tLc (iKeys (tVar i)) g (tDT Ta nm rt) (tD Ta nm re) vs) σ H Q := fun σ H Q ⟨C, E, q, s, ⟨kvs, hx, no, hr⟩, k⟩ => by
  obtain ⟨v, ev, sd⟩ := s.data hx
  obtain ⟨a, ks, rfl, ha, sk⟩ := sd_dict sd
  obtain ⟨nz, ha⟩ := msk_some.mp ha
  refine ⟨a, _, ha, trivial, fun od => ⟨_, ev, a, od, rfl, .inl ⟨ks, upd_same, ?_⟩⟩⟩
  have nz' : ¬ Zof (lockC C (upd H a (.frz od (.dK ks))) σ E) σ (plainE E) a := fun z => nz (zof_lock z)
  have st := lock_in (od := od) s ha nz
  have ek : (ks.map fun p => keyD p.1) = kvs.map fun p => keyD p.1 := by
    have : ∀ {ks : List (Key × V)} {kvs : List (Key × PyData)}, SdKs (msk (Zof C σ E) H) ks kvs → (ks.map fun p => keyD p.1) = kvs.map fun p => keyD p.1 := fun {ks kvs} h => by
      induction h with
      | nil => rfl
      | cons h _ ih => rw [List.map_cons, List.map_cons, ih, h.1]
    exact this sk
  refine lc_turns (Q := fun v H' => H' a = some (.frz od (.dK ks)) ∧ Q v (upd H' a (.dK ks))) hgs hsub st no (fun d v H' g' k' sd hq => ?_) _ _ _ Go.refl st.ok (walks_keys upd_same nz') (by rw [ek]; exact hr)
  obtain ⟨e1, e2, e3⟩ := lock_out s ha nz g' k'
  refine ⟨e1, k d v _ e2 e3 (sd.nofrz fun b o e n => ?_) hq⟩
  obtain ⟨z, e⟩ := msk_some.mp e
  exact msk_some.mpr ⟨fun y => z (lock_zof y), (upd_ne (fun y : b = a => by rw [y, e1] at e; cases e; exact n _ _ rfl)).trans e⟩
theorem lock_asg {t : TE} {st : Stmt} {j : Nat} (h : PS X st (tAsg t (gName j))) : PS X st (tAsg (tLockE t) (gName j)) := PS.weak (ps_lock h) fun D σ H ⟨d, u, h1, h2, h3⟩ => ⟨d, u, h1, h2, h3⟩
end
end Zk

set_option maxHeartbeats 1000000
/-! V28: texts told apart; signs. -/
namespace Zk
open PySem PySem.Spec PyProof.Rows L2 GxR
theorem str_ext {x y : Str} (h : x.cps.toList = y.cps.toList) : x = y := by
  cases x with
  | mk a =>
    cases y with
    | mk b =>
      have : a = b := Array.toList_inj.mp h
      rw [this]
theorem ofS_cps (s : String) : (Str.ofString s).cps.toList = s.toList.map Char.toNat := by
  rw [PySem.Str.ofString_eq_toList]
@[simp] theorem ofS_inj {a b : String} : (Str.ofString a = Str.ofString b) ↔ a = b := by
  constructor
  · intro h
    have : (Str.ofString a).cps.toList = (Str.ofString b).cps.toList := by rw [h]
    rw [ofS_cps, ofS_cps] at this
    have inj : ∀ {l m : List Char}, l.map Char.toNat = m.map Char.toNat → l = m := by
      intro l
      induction l with
      | nil => intro m h; cases m with
        | nil => rfl
        | cons _ _ => cases h
      | cons c l ih =>
        intro m h
        cases m with
        | nil => cases h
        | cons d m =>
          have h1 := (List.cons.inj h).1
          have h2 := (List.cons.inj h).2
          have : c = d := Char.toNat_inj.mp h1
          rw [this, ih h2]
    exact String.toList_inj.mp (inj this)
  · intro h; rw [h]
@[simp] theorem ofS_beq {a b : String} : ((Str.ofString a == Str.ofString b) = true) ↔ a = b := by
  rw [beq_iff_eq, ofS_inj]
/-- a single sign is a text -/
theorem one_eq {c : Nat} {z : Str} {k : Nat} (h : z.cps.toList = [k]) : ((⟨#[c]⟩ : Str) == z) = decide (c = k) := by
  by_cases e : c = k
  · subst e
    rw [decide_eq_true rfl, beq_iff_eq]
    exact str_ext h.symm
  · rw [decide_eq_false e]
    refine beq_eq_false_iff_ne.mpr fun e2 => e ?_
    have : (⟨#[c]⟩ : Str).cps.toList = z.cps.toList := by rw [e2]
    rw [h] at this
    simpa using this
theorem one_is {c : Nat} {z : Str} {k : Nat} (h : z.cps.toList = [k]) : ((⟨#[c]⟩ : Str) = z) ↔ c = k := by
  rw [← beq_iff_eq, one_eq h, decide_eq_true_eq]
theorem str_len (z : Str) : z.length = z.cps.toList.length := by simp [Str.length]
theorem cat_cps (x y : Str) : (x ++ y).cps.toList = x.cps.toList ++ y.cps.toList := by
  show (x.cps ++ y.cps).toList = _
  simp
theorem len_cat (x y : Str) : (x ++ y).length = x.length + y.length := by
  rw [str_len, str_len, str_len, cat_cps, List.length_append]
/-- the sign at i -/
theorem sign_at {z : Str} {i : Int} (h0 : 0 ≤ i) (h1 : i < z.length) : ∃ c, L2.atI z.cps.toList i = some c ∧ z.cps.toList[i.toNat]? = some c := by
  rw [str_len] at h1
  have hi : i.toNat < z.cps.toList.length := by omega
  have e : i = ((i.toNat : Nat) : Int) := by omega
  refine ⟨z.cps.toList[i.toNat], ?_, List.getElem?_eq_getElem hi⟩
  have := atI_nat (List.getElem?_eq_getElem hi)
  rw [← e] at this
  exact this
section
variable {vs : List Nat} {ri : DRI} {re : DR} {rt : DRT} {E : DEnv} {q : PyData → Prop} {i : Nat}
/-- for over what may come in any order -/
theorem one_forP {rg : DRG} {rb : DRS} {K : DEnds} (P : List PyData → Prop) (hri : ∀ q' : List PyData → Prop, (∀ xs, P xs → q' xs) → ri E q') (I : List PyData → Nat → DEnv → Prop) (h0 : ∀ xs, P xs → I xs 0 E)
    (step : ∀ xs, P xs → ∀ i d E', xs[i]? = some d → I xs i E' → rg d E' fun E2 => rb { K with nx := I xs (i + 1), ct := I xs (i + 1), bk := K.nx } E2) (fin : ∀ xs, P xs → ∀ E', I xs xs.length E' → K.nx E') : rFor ri rg rb K E := hri _ fun xs h => ⟨I xs, h0 xs h, step xs h, fin xs h⟩
/-- [e for x in xs] -/
theorem rLc_map {g : PyData → PyData} (xs : List PyData) (no : NoOwn E vs) (hi : i < E.length) (hl : xs.length ≤ sizeLine) (hri : ∀ q' : List PyData → Prop, q' xs → ri E q') (hre : ∀ d ∈ xs, ∀ q' : PyData → Prop, q' (g d) → re ((wipeE E vs).set i (.d d)) q') (hq : q (.list (xs.map g))) : rLc vs ri (rgN i) rtYes re E q :=
  rLc_filter (p := fun _ => true) xs no hi hl hri (fun d hd q' h => h) (fun d hd _ q' h => hre d hd q' h) (by rw [List.filter_eq_self.mpr (fun _ _ => rfl)]; exact hq)
end
end Zk

set_option maxHeartbeats 1000000
/-! V29: a law's run over data; arguments by keyword. -/
namespace Zk
open PySem PySem.Spec PyProof.Rows L2 GxR
def spLaw (K : PySem.W.Frag) (Ta : List Addr) : Sp := fun vs H Q _ => ∃ (a : Addr) (ns : List Int), vs = [.ref a] ∧ SqL K H a (ns.map V.int) ∧ ns.length ≤ 63 ∧ Tb Ta H ∧ ∀ H', Q (.bl true) H'
/-- the law's slots: the script, the deck, the others empty -/
def lawE (n : Nat) : DEnv := .no :: .deck :: List.replicate n .no
theorem lawE_own {n i : Nat} {e : DV} (h : (lawE n)[i]? = some e) : e.own = false := by
  have := List.mem_of_getElem? h
  unfold lawE at this
  simp only [List.mem_cons, List.mem_replicate] at this
  rcases this with rfl | rfl | ⟨_, rfl⟩ <;> rfl
theorem law_in {Ta : List Addr} {nm : Str} {σ : L2.St} {H H1 : Hp} {p lf : Addr} {r : DRS} {D : Ends} (n : Nat) (hn : σ.length = n + 2) (h1 : σ[1]? = some (some (.ref p))) (s1 : Same H H1) (tb : Tb Ta H) (dok : DeckOk nm H1 p lf) (q : ∀ H', D.rt (.bl true) H')
    (h : r { nx := fun _ => False, rt := fun d => d = .bool true } (lawE n)) : tDS Ta nm r D σ H1 := by
  let C : DC Ta nm := ⟨some (p, lf), fun _ => False, ntb H1⟩
  have dkk : ∀ b, C.Dk b ↔ (b = p ∨ b = lf) := fun b => ⟨fun ⟨c, e, z⟩ => by cases e; exact z, fun z => ⟨_, rfl, z⟩⟩
  have dok' := dok
  obtain ⟨left, m, d, e1, e2, _⟩ := dok'
  refine ⟨C, lawE n, { nx := fun _ => False, rt := fun d => d = .bool true }, ⟨⟨fun b k => ?_, fun b k => k.elim, fun b ps e => (ntb_to e).2 ps rfl⟩, fun b o e _ _ => (ntb_to e).1, ⟨tb.same s1, fun c e => by cases e; exact dok⟩, by rw [hn]; simp [lawE], fun i e he => ?_, fun i j e e' a _ h1 h2 => ?_⟩, ⟨fun _ _ _ _ h => h.elim, fun v H2 d _ _ sd h => ?_, fun _ _ _ _ h => h.elim, fun _ _ _ _ h => h.elim⟩, h⟩
  · show ntb H1 b ≠ none
    rcases (dkk b).mp k with rfl | rfl
    · rw [ntb_of e1 (fun _ z => nomatch z)]; exact fun z => nomatch z
    · rw [ntb_of e2 (fun _ z => nomatch z)]; exact fun z => nomatch z
  · have il : i < σ.length := by
      have := (List.getElem?_eq_some_iff.mp he).1
      rw [hn]
      simpa [lawE] using this
    match i, he with
    | 0, he => cases he; exact ⟨_, List.getElem?_eq_getElem il, trivial⟩
    | 1, he => cases he; exact ⟨_, h1, (p, lf), rfl, rfl⟩
    | i + 2, he =>
      have := List.mem_of_getElem? (show (List.replicate n DV.no)[i]? = some e from he)
      rw [(List.mem_replicate.mp this).2]
      exact ⟨_, List.getElem?_eq_getElem il, trivial⟩
  · rw [lawE_own h1] at h2
    cases h2
  · subst h
    rw [sd_bool sd]
    exact q H2
/-! ### arguments by keyword: one, two, two the other way round -/
def kg1 : List Value → List Value → List Value | [], [a] => [a] | _, _ => []
def kv1 : List V → List V → List V | [], [a] => [a] | _, _ => []
def kd1 : List PyData → List PyData | [a] => [a] | _ => []
def kg2 : List Value → List Value → List Value | [], [a, b] => [a, b] | _, _ => []
def kv2 : List V → List V → List V | [], [a, b] => [a, b] | _, _ => []
def kd2 : List PyData → List PyData | [a, b] => [a, b] | _ => []
def kg2s : List Value → List Value → List Value | [], [a, b] => [b, a] | _, _ => []
def kv2s : List V → List V → List V | [], [a, b] => [b, a] | _, _ => []
def kd2s : List PyData → List PyData | [a, b] => [b, a] | _ => []
theorem kr1 {vs : List V} {us : List Value} {zs : List V} {ws : List Value} (h : Vals vs us) (k : Vals zs ws) : Vals (kv1 vs zs) (kg1 us ws) := by
  cases h with
  | nil =>
    cases k with
    | nil => exact .nil
    | cons a t =>
      cases t with
      | nil => exact .cons a .nil
      | cons _ _ => exact .nil
  | cons a t =>
    show Vals [] _
    have : ∀ (x : Value) (l ws : List Value), kg1 (x :: l) ws = [] := fun x l ws => by unfold kg1; rfl
    rw [this]
    exact .nil
theorem kr2 {vs : List V} {us : List Value} {zs : List V} {ws : List Value} (h : Vals vs us) (k : Vals zs ws) : Vals (kv2 vs zs) (kg2 us ws) := by
  cases h with
  | nil =>
    cases k with
    | nil => exact .nil
    | cons a t =>
      cases t with
      | nil => exact .nil
      | cons b t =>
        cases t with
        | nil => exact .cons a (.cons b .nil)
        | cons _ _ => exact .nil
  | cons a t =>
    show Vals [] _
    have : ∀ (x : Value) (l ws : List Value), kg2 (x :: l) ws = [] := fun x l ws => by unfold kg2; rfl
    rw [this]
    exact .nil
theorem kr2s {vs : List V} {us : List Value} {zs : List V} {ws : List Value} (h : Vals vs us) (k : Vals zs ws) : Vals (kv2s vs zs) (kg2s us ws) := by
  cases h with
  | nil =>
    cases k with
    | nil => exact .nil
    | cons a t =>
      cases t with
      | nil => exact .nil
      | cons b t =>
        cases t with
        | nil => exact .cons b (.cons a .nil)
        | cons _ _ => exact .nil
  | cons a t =>
    show Vals [] _
    have : ∀ (x : Value) (l ws : List Value), kg2s (x :: l) ws = [] := fun x l ws => by unfold kg2s; rfl
    rw [this]
    exact .nil
theorem kdata1 : KData kv1 kd1 := fun M vs ds h => by
  cases h with
  | nil => exact .nil
  | cons a t =>
    cases t with
    | nil => exact .cons a .nil
    | cons _ _ => exact .nil
theorem kdata2 : KData kv2 kd2 := fun M vs ds h => by
  cases h with
  | nil => exact .nil
  | cons a t =>
    cases t with
    | nil => exact .nil
    | cons b t =>
      cases t with
      | nil => exact .cons a (.cons b .nil)
      | cons _ _ => exact .nil
theorem kdata2s : KData kv2s kd2s := fun M vs ds h => by
  cases h with
  | nil => exact .nil
  | cons a t =>
    cases t with
    | nil => exact .nil
    | cons b t =>
      cases t with
      | nil => exact .cons b (.cons a .nil)
      | cons _ _ => exact .nil
/-- what a def that is called by position and by keyword promises -/
structure CallK (P : Program) (w : World) (K : PySem.W.Frag) (mg : Str → Option Value) (base : Heap) (x : Str) (k : Nat) (ps ks : List Str) (g : List Value → List Value → List Value) (gV : List V → List V → List V) (sp : Sp) : Prop where
  ex : ∃ f fd, FnOk P w K mg base CX0 k f fd ps sp ∧ Binds K fd ps [] ∧ KBinds K fd ps ks g gV ∧ PySem.W.keepIn K (.ref f) = true ∧ mg x = some (.ref f)
/-- repr of a bool -/
theorem repr_bool (b : Bool) : (PyData.bool b).showable = true ∧ (PyData.bool b).depth ≤ 100 ∧ (PyData.bool b).shown.length ≤ sizeLine := by
  refine (nice_bl b : Nice 10 128 0 5 (.bool b)).repr ?_ (by decide) (by decide) (by decide)
  exact Nat.lt_of_lt_of_le (show 10 < 2 ^ 4 by decide) (Nat.pow_le_pow_right (by decide) (by decide))
theorem two_1900 {B : Nat} (h : B < 2 ^ 60) : B < 2 ^ 1900 := Nat.lt_of_lt_of_le h (Nat.pow_le_pow_right (by decide) (by decide))
end Zk

set_option maxHeartbeats 1000000
/-! V30: zip of lists, tuples, texts, in any mixture. -/
namespace Zk
open PySem PySem.Spec PyProof.Rows L2 GxR RZ
/-- what is walked -/
inductive Src where
  | txt (x : Str) | tup (a : Addr) | lst (a : Addr)
def Src.v : Src → V
  | .txt x => .str x
  | .tup a => .ref a
  | .lst a => .ref a
/-- what it holds -/
def Src.has (K : PySem.W.Frag) (H : Hp) : Src → List V → Prop
  | .txt x, ys => ys = x.cps.toList.map fun c => V.str ⟨#[c]⟩
  | .tup a, ys => SqT K H a ys
  | .lst a, ys => SqL K H a ys
/-- its iterator -/
def Src.st (it : Addr) (k : Nat) (h : Heap) : Src → Prop
  | .txt x => ∃ t, h.IsStrIter it (strIterType x) x t k
  | .tup a => h.IsTupleIter it a k
  | .lst a => h.IsListIter it a k
/-- where it stands -/
def Src.on : Src → List Addr
  | .txt _ => []
  | .tup a => [a]
  | .lst a => [a]
theorem Src.st_keep {s : Src} {it : Addr} {k : Nat} {h h' : Heap} (x : s.st it k h) (kp : ∀ o, h.get? it = some o → h'.get? it = some o) : s.st it k h' := by
  cases s with
  | txt x' => obtain ⟨t, o, ho, r⟩ := x; exact ⟨t, o, kp o ho, r⟩
  | tup a => exact Heap.IsTupleIter.at x kp
  | lst a => exact Heap.IsListIter.at x kp
theorem Src.st_obj {s : Src} {it : Addr} {k : Nat} {h : Heap} (x : s.st it k h) : ∃ o, h.get? it = some o ∧ ∀ v, o.data ≠ .cell v := by
  cases s with
  | txt x' => obtain ⟨t, o, ho, _, d⟩ := x; exact ⟨o, ho, fun v q => by rw [d] at q; cases q⟩
  | tup a => obtain ⟨o, ho, _, d⟩ := x; exact ⟨o, ho, fun v q => by rw [d] at q; cases q⟩
  | lst a => obtain ⟨o, ho, _, d⟩ := x; exact ⟨o, ho, fun v q => by rw [d] at q; cases q⟩
section
variable {X : Cx} {pins : List (Addr × Obj)} {σ : L2.St} {H : Hp} {s : Shared}
theorem Src.inj {u : Src} {xs ys : List V} (I : Inv X pins σ H s) (h : u.has X.K H xs) (h' : u.has X.K H ys) : xs = ys := by
  cases u with
  | txt x => exact h.trans h'.symm
  | tup a => exact I.tuple_inj h h'
  | lst a => exact I.list_inj h h'
/-- its items are drawn -/
theorem Src.draws {u : Src} {it : Addr} {k : Nat} {ys : List V} {A : Around} (hh : A.handled = none) (I : Inv X pins σ H s) (h : u.has X.K H ys) (st : u.st it k s.heap) (ne : ∀ a ∈ u.on, a ≠ it) :
    ∃ (P : Nat → Value → Prop) (St : Nat → Heap → Prop), Draws X.prog X.w A it (it :: u.on) ys.length P St ∧ St k s.heap ∧ (∀ k h, St k h → u.st it k h) ∧ ∀ k w, P k w → ∃ y, ys[k]? = some y ∧ RelV y w := by
  cases u with
  | txt x =>
    obtain ⟨t, st⟩ := st
    have hl : ys.length = x.cps.size := by rw [h]; simp
    rw [hl]
    refine ⟨_, _, Draws.text hh it x t, st, fun k h z => ⟨t, z⟩, fun k w ⟨c, u, e, ew⟩ => ⟨.str ⟨#[c]⟩, ?_, u, ew⟩⟩
    rw [h, List.getElem?_map]
    have : x.cps.toList[k]? = some c := by simpa using e
    rw [this]
    rfl
  | tup a =>
    obtain ⟨its, rv, p, _⟩ := I.tuple h
    have hl : ys.length = its.toArray.size := by rw [List.size_toArray, rv.length]
    rw [hl]
    refine ⟨_, _, Draws.tuple hh it a (ne a (by simp [Src.on])) its.toArray, ⟨st, p⟩, fun k h z => z.1, fun k w e => ?_⟩
    have e : its[k]? = some w := by simpa using e
    have hk : k < ys.length := by rw [rv.length]; exact (List.getElem?_eq_some_iff.mp e).1
    obtain ⟨u, hu, ru⟩ := rv.get (List.getElem?_eq_getElem hk)
    rw [e] at hu
    cases hu
    exact ⟨_, List.getElem?_eq_getElem hk, ru⟩
  | lst a =>
    obtain ⟨its, rv, p, _⟩ := I.list h
    have hl : ys.length = its.toArray.size := by rw [List.size_toArray, rv.length]
    rw [hl]
    refine ⟨_, _, Draws.list hh it a (ne a (by simp [Src.on])) its.toArray, ⟨st, p.isList⟩, fun k h z => z.1, fun k w e => ?_⟩
    have e : its[k]? = some w := by simpa using e
    have hk : k < ys.length := by rw [rv.length]; exact (List.getElem?_eq_some_iff.mp e).1
    obtain ⟨u, hu, ru⟩ := rv.get (List.getElem?_eq_getElem hk)
    rw [e] at hu
    cases hu
    exact ⟨_, List.getElem?_eq_getElem hk, ru⟩
end
/-- the items of both, in new pairs -/
def ItzG (K : PySem.W.Frag) (u1 u2 : Src) : It :=
  ⟨fun i H => ∃ (xs ys : List V), u1.has K H xs ∧ u2.has K H ys ∧ i < xs.length ∧ i < ys.length,
    fun i H v H' => ∃ T x y, v = .ref T ∧ H T = none ∧ H' = upd H T (.tup [x, y]) ∧ (∀ xs, u1.has K H xs → xs[i]? = some x) ∧ ∀ ys, u2.has K H ys → ys[i]? = some y,
    fun i H => ∃ xs ys : List V, u1.has K H xs ∧ u2.has K H ys ∧ i = min xs.length ys.length⟩
structure ZSep (z TI TO i1 i2 : Addr) (u1 u2 : Src) : Prop where
  TIz : TI ≠ z
  TOz : TO ≠ z
  TITO : TI ≠ TO
  TIi1 : TI ≠ i1
  TIi2 : TI ≠ i2
  zi1 : z ≠ i1
  zi2 : z ≠ i2
  Ti1 : TO ≠ i1
  Ti2 : TO ≠ i2
  i12 : i1 ≠ i2
  o1 : ∀ a ∈ u1.on, a ≠ z ∧ a ≠ TO ∧ a ≠ i1 ∧ a ≠ i2
  o2 : ∀ a ∈ u2.on, a ≠ z ∧ a ≠ TO ∧ a ≠ i1 ∧ a ≠ i2
theorem ZSep.sep {z TI TO i1 i2 : Addr} {u1 u2 : Src} (D : ZSep z TI TO i1 i2 u1 u2) : ZipSep2 z TI TO i1 i2 (i1 :: u1.on) (i2 :: u2.on) where
  TIz := D.TIz
  TOz := D.TOz
  TITO := D.TITO
  TIi1 := D.TIi1
  mem1 := List.mem_cons_self
  zf1 := fun h => (List.mem_cons.mp h).elim D.zi1 fun h => (D.o1 _ h).1 rfl
  Tf1 := fun h => (List.mem_cons.mp h).elim D.Ti1 fun h => (D.o1 _ h).2.1 rfl
  TIi2 := D.TIi2
  mem2 := List.mem_cons_self
  zf2 := fun h => (List.mem_cons.mp h).elim D.zi2 fun h => (D.o2 _ h).1 rfl
  Tf2 := fun h => (List.mem_cons.mp h).elim D.Ti2 fun h => (D.o2 _ h).2.1 rfl
  sep1_2 := fun h => (List.mem_cons.mp h).elim D.i12 fun h => (D.o2 _ h).2.2.1 rfl
  sep2_1 := fun h => (List.mem_cons.mp h).elim (fun e => D.i12 e.symm) fun h => (D.o1 _ h).2.2.2 rfl
theorem turn_zipG {P : Program} {w : World} {K : PySem.W.Frag} {elts : List Expr} {kk : Nat} {tpos : Pos} {u1 u2 : Src} {z TI TO i1 i2 : Addr} (D : ZSep z TI TO i1 i2 u1 u2) :
    Turn P w K (.Tuple elts kk tpos) (ItzG K u1 u2) [z, TI, TO, i1, i2] z (fun i h => IsZip h z TI TO .none ∧ IsTupOf2 h TI (.ref i1) (.ref i2) ∧ (∃ x y, IsTupOf2 h TO x y) ∧ u1.st i1 i h ∧ u2.st i2 i h) where
  mem := by simp
  obj := fun i h st c hc => by
    obtain ⟨hz, hTI, ⟨x, y, hTO⟩, h1, h2⟩ := st
    have e' : c = z ∨ c = TI ∨ c = TO ∨ c = i1 ∨ c = i2 := by simpa using hc
    rcases e' with q | q | q | q | q
    · rw [q]; exact ⟨_, hz, fun v q => nomatch q⟩
    · rw [q]; exact ⟨_, hTI, fun v q => nomatch q⟩
    · rw [q]; exact ⟨_, hTO, fun v q => nomatch q⟩
    · rw [q]; exact Src.st_obj h1
    · rw [q]; exact Src.st_obj h2
  keep := fun i h h' st k => by
    obtain ⟨hz, hTI, ⟨x, y, hTO⟩, h1, h2⟩ := st
    exact ⟨k z (by simp) _ hz, k TI (by simp) _ hTI, ⟨x, y, k TO (by simp) _ hTO⟩, Src.st_keep h1 fun o q => k i1 (by simp) o q, Src.st_keep h2 fun o q => k i2 (by simp) o q⟩
  item := by
    intro X hP hw hK hc i pins s σ H E I hf st hg
    subst hP hw hK
    obtain ⟨hz, hTI, ⟨x0, y0, hTO⟩, h1, h2⟩ := st
    obtain ⟨xs, ys, hqx, hqy, hx, hy⟩ := hg
    have hzl : z < s.heap.objs.size := Heap.lt_size hz
    obtain ⟨P1, S1, d1, a1, b1, c1⟩ := Src.draws (A := X.A.in1) (I.ok.hd hc) I hqx h1 fun a ha => (D.o1 a ha).2.2.1
    obtain ⟨P2, S2, d2, a2, b2, c2⟩ := Src.draws (A := X.A.in1) (I.ok.hd hc) I hqy h2 fun a ha => (D.o2 a ha).2.2.2
    refine wpAny_pyNext_zipD2_item D.sep d1 d2 hz hTI hTO a1 a2 hx hy fun x1 x2 h' tk p1 p2 z' TO' h1' h2' hT hsz hk => ?_
    obtain ⟨y1, e1, r1⟩ := c1 _ _ p1
    obtain ⟨y2, e2, r2⟩ := c2 _ _ p2
    refine ⟨_, rfl, wpAny_letOwnedTupleGo_zip (s := { s with heap := h', toks := tk }) z' fun h'' z'' sb => ?_⟩
    have hT2 : h''.get? s.heap.objs.size = some { cls := .type "tuple", data := .seq #[x1, x2] } := (sb.2 _ (Nat.ne_of_gt hzl)).trans hT
    have new : ObjOk X.prog X.w (upd H s.heap.objs.size (.tup [y1, y2])) h'' s.heap.objs.size (.tup [y1, y2]) :=
      ⟨by show 2 ≤ sizeLine; decide, [x1, x2], .cons r1 (.cons r2 .nil), ⟨_, hT2, rfl, _, rfl⟩⟩
    have I1 : Inv X pins σ (upd H s.heap.objs.size (.tup [y1, y2])) { s with heap := h'', toks := tk } :=
      I.turnedNew (t' := tk) (ch := [z, TI, TO, i1, i2]) (fun c o hb q => (sb.2 c (fun q' => hb (by simp [q']))).trans (hk c o (fun q' => hb (by simp [q'])) (fun q' => hb (by simp [q'])) (fun q' => hb (by simp [q'])) (fun q' => hb (by simp [q'])) q)) hf (Nat.le_refl _) new
    have lt : ∀ {u : Src} {it : Addr}, u.st it i s.heap → it < s.heap.objs.size := fun z => by obtain ⟨o, e, _⟩ := Src.st_obj z; exact Heap.lt_size e
    refine ⟨.ref s.heap.objs.size, _, I1, rfl, ⟨_, y1, y2, rfl, I.hok.fresh (Nat.le_refl _), rfl, fun l hl => by rw [Src.inj I hl hqx]; exact e1, fun l hl => by rw [Src.inj I hl hqy]; exact e2⟩, ⟨z'', ?_, ⟨x1, x2, ?_⟩, ?_, ?_⟩, fun c hcm => ?_⟩
    · exact (sb.2 _ D.TIz).trans (hk _ _ D.TIz D.TITO D.TIi1 D.TIi2 hTI)
    · exact (sb.2 _ D.TOz).trans TO'
    · exact Src.st_keep (b1 _ _ h1') fun o q => (sb.2 _ (fun e => D.zi1 e.symm)).trans q
    · exact Src.st_keep (b2 _ _ h2') fun o q => (sb.2 _ (fun e => D.zi2 e.symm)).trans q
    · have hlt : c < s.heap.objs.size := by
        have e' : c = z ∨ c = TI ∨ c = TO ∨ c = i1 ∨ c = i2 := by simpa using hcm
        rcases e' with q | q | q | q | q
        · rw [q]; exact hzl
        · rw [q]; exact Heap.lt_size hTI
        · rw [q]; exact Heap.lt_size hTO
        · rw [q]; exact lt h1
        · rw [q]; exact lt h2
      rw [upd_ne (Nat.ne_of_lt hlt)]
      exact (hf c hcm).1
  done := by
    intro X hP hw hK hc i pins s σ H E I hf st hg
    subst hP hw hK
    obtain ⟨hz, hTI, ⟨x0, y0, hTO⟩, h1, h2⟩ := st
    obtain ⟨xs, ys, hqx, hqy, hend⟩ := hg
    obtain ⟨P1, S1, d1, a1, b1, c1⟩ := Src.draws (A := X.A.in1) (I.ok.hd hc) I hqx h1 fun a ha => (D.o1 a ha).2.2.1
    obtain ⟨P2, S2, d2, a2, b2, c2⟩ := Src.draws (A := X.A.in1) (I.ok.hd hc) I hqy h2 fun a ha => (D.o2 a ha).2.2.2
    exact wpAny_pyNext_zipD2_end D.sep d1 d2 hz hTI hTO a1 a2 (by omega) (by omega) (by omega) fun h' tk hk => ⟨rfl, I.turnedL (t' := tk) (ch := [z, TI, TO, i1, i2]) (fun c o hb q =>
      hk c o (fun q' => hb (by simp [q'])) (fun q' => hb (by simp [q'])) (fun q' => hb (by simp [q'])) (fun q' => hb (by simp [q'])) q) hf⟩
  self := fun A i s Q E st h => wpAny_pyIter_zip st.1 h
def iZipG (K : PySem.W.Frag) (ta : TA) : TI := fun σ H R => ta σ H fun vs H1 => ∃ u1 u2 xs ys, vs = [u1.v, u2.v] ∧ u1.has K H1 xs ∧ u2.has K H1 ys ∧ R (ItzG K u1 u2) H1
theorem Src.begins {X : Cx} {pins : List (Addr × Obj)} {σ : L2.St} {H : Hp} {s : Shared} {u : Src} {xs : List V} {w : Value} (I : Inv X pins σ H s) (h : u.has X.K H xs) (r : RelV u.v w) :
    ∃ (o : Obj) (Hh : Heap → Prop), Begins w o Hh ∧ Hh s.heap ∧ (∀ (h' : Heap) (it : Addr), h'.get? it = some o → u.st it 0 h') ∧ ∀ a ∈ u.on, a < s.heap.objs.size := by
  cases u with
  | txt x =>
    obtain ⟨t, rfl⟩ := r
    exact ⟨_, _, begins_text x t, trivial, fun h' it e => ⟨t, _, e, rfl, rfl⟩, fun a ha => by cases ha⟩
  | tup a =>
    cases r
    obtain ⟨its, rv, p, _⟩ := I.tuple h
    obtain ⟨o, ho, _⟩ := id p
    exact ⟨_, _, begins_tuple a its.toArray, p, fun h' it e => ⟨_, e, rfl, rfl⟩, fun b hb => by rw [List.mem_singleton.mp hb]; exact Heap.lt_size ho⟩
  | lst a =>
    cases r
    obtain ⟨its, rv, p, _⟩ := I.list h
    exact ⟨_, _, begins_list a its.toArray, p.isList, fun h' it e => ⟨_, e, rfl, rfl⟩, fun b hb => by rw [List.mem_singleton.mp hb]; exact p.lt⟩
theorem pi_zipG {X : Cx} {e e2 : Expr} {ta : TA} {p pos tpos : Pos} {elts : List Expr} {kk : Nat} (hg : Gl X "zip") (hm : X.mg "zip" = none) (ha : PA X [e, e2] ta)
    (hs : starEach [e, e2] X.env = (false, eval e X.env) :: starEach [e2] X.env := by rfl) (hpl : (backTo pos (starEach [e2] X.env)).any (·.1) = false := by rfl) :
    PI X (.Tuple elts kk tpos) (.Call (.Name "zip" p) [e, e2] [] pos) (iZipG X.K ta) := by
  refine ⟨fun pins s σ H R I h => ?_⟩
  refine Call_ (ld_blt I hg hm PyProof.Rows.boot_zip (PyProof.Rows.callWith_type1 (thn (ha.run pos pins s σ H _ I h) fun us s1 ⟨vs, H1, I1, r1, q1⟩ => ?_) hs hpl))
  obtain ⟨u1, u2, xs, ys, ex, hx, hy, q⟩ := q1
  subst ex
  cases r1 with
  | cons r rr =>
    cases rr with
    | cons r' rr =>
      cases rr
      obtain ⟨o1, G1, B1, g1, st1, l1⟩ := Src.begins I1 hx r
      obtain ⟨o2, G2, B2, g2, st2, l2⟩ := Src.begins I1 hy r'
      have fresh5 : ∀ c, c ∈ [s1.heap.objs.size + 4, s1.heap.objs.size + 2, s1.heap.objs.size + 3, s1.heap.objs.size, s1.heap.objs.size + 1] → FpOk X pins H1 c := fun c hcm => by
        have e' : c = s1.heap.objs.size + 4 ∨ c = s1.heap.objs.size + 2 ∨ c = s1.heap.objs.size + 3 ∨ c = s1.heap.objs.size ∨ c = s1.heap.objs.size + 1 := by simpa using hcm
        have hle : s1.heap.objs.size ≤ c := by
          rcases e' with z | z | z | z | z
          · rw [z]; exact Nat.le_add_right _ _
          · rw [z]; exact Nat.le_add_right _ _
          · rw [z]; exact Nat.le_add_right _ _
          · rw [z]; exact Nat.le_refl _
          · rw [z]; exact Nat.le_add_right _ _
        exact I1.fpOk hle (I1.hok.fresh hle)
      refine zip_begins2 B1 B2 g1 g2 fun h' hz hTI hTO h1 h2 hsz hk => wpAny_pyIter_zip hz ?_
      have I2 : Inv X pins σ H1 { s1 with heap := h' } := I1.kept (t' := s1.toks) hk
      have n : ∀ (i j : Nat), i ≠ j → ¬ ((s1.heap.objs.size + i : Addr) = (s1.heap.objs.size + j : Addr)) := fun i j h e => h (Nat.add_left_cancel e)
      have off : ∀ (u : Src), (∀ a ∈ u.on, a < s1.heap.objs.size) → ∀ a ∈ u.on, a ≠ (s1.heap.objs.size + 4 : Addr) ∧ a ≠ (s1.heap.objs.size + 3 : Addr) ∧ a ≠ s1.heap.objs.size ∧ a ≠ (s1.heap.objs.size + 1 : Addr) := fun u l a ha => by
        have := l a ha
        exact ⟨Nat.ne_of_lt (Nat.lt_of_lt_of_le this (Nat.le_add_right _ _)), Nat.ne_of_lt (Nat.lt_of_lt_of_le this (Nat.le_add_right _ _)), Nat.ne_of_lt this, Nat.ne_of_lt (Nat.lt_of_lt_of_le this (Nat.le_add_right _ _))⟩
      have D : ZSep (s1.heap.objs.size + 4) (s1.heap.objs.size + 2) (s1.heap.objs.size + 3) s1.heap.objs.size (s1.heap.objs.size + 1) u1 u2 :=
        ⟨n 2 4 (by decide), n 3 4 (by decide), n 2 3 (by decide), n 2 0 (by decide), n 2 1 (by decide), n 4 0 (by decide), n 4 1 (by decide), n 3 0 (by decide), n 3 1 (by decide), n 0 1 (by decide), off u1 l1, off u2 l2⟩
      exact ⟨s1.heap.objs.size + 4, [s1.heap.objs.size + 4, s1.heap.objs.size + 2, s1.heap.objs.size + 3, s1.heap.objs.size, s1.heap.objs.size + 1], _, _, H1, rfl, I2, turn_zipG D, ⟨hz, hTI, ⟨_, _, hTO⟩, st1 _ _ h1, st2 _ _ h2⟩, fresh5, q⟩
/-! ### over data -/
/-- the items of what may be walked -/
def itemsD : PyData → Option (List PyData)
  | .list xs => some xs
  | .tuple xs => some xs
  | .str z => some (signsD z)
  | _ => none
@[simp] theorem itemsD_list (xs : List PyData) : itemsD (.list xs) = some xs := rfl
@[simp] theorem itemsD_tuple (xs : List PyData) : itemsD (.tuple xs) = some xs := rfl
@[simp] theorem itemsD_str (z : Str) : itemsD (.str z) = some (signsD z) := rfl
theorem src_of {K : PySem.W.Frag} {Z : Addr → Prop} {H1 : Hp} {v : V} {d : PyData} {xs : List PyData} (sd : Sd (msk Z H1) v d) (e : itemsD d = some xs) :
    ∃ (u : Src) (vs : List V), v = u.v ∧ SdL (msk Z H1) vs xs ∧ u.has K H1 vs ∧ ∀ H2, Keep Z H1 H2 → u.has K H2 vs := by
  cases d with
  | list ys =>
    cases e
    obtain ⟨a, vs, rfl, ha, sds⟩ := sd_lst sd
    obtain ⟨nz, ha⟩ := msk_some.mp ha
    exact ⟨.lst a, vs, rfl, sds, SqL.of ha, fun H2 k => SqL.of (k a _ ha (fun _ z => nomatch z) nz)⟩
  | tuple ys =>
    cases e
    obtain ⟨a, vs, rfl, ha, sds⟩ := sd_tup sd
    obtain ⟨nz, ha⟩ := msk_some.mp ha
    exact ⟨.tup a, vs, rfl, sds, SqT.of ha, fun H2 k => SqT.of (k a _ ha (fun _ z => nomatch z) nz)⟩
  | str z =>
    cases e
    have h := sd_str sd
    subst h
    refine ⟨.txt z, z.cps.toList.map fun c => V.str ⟨#[c]⟩, rfl, ?_, rfl, fun _ _ => rfl⟩
    unfold signsD
    have : ∀ l : List Nat, SdL (msk Z H1) (l.map fun c => V.str ⟨#[c]⟩) (l.map fun c => PyData.str ⟨#[c]⟩) := fun l => by
      induction l with
      | nil => exact .nil
      | cons c l ih => exact .cons (.str _) ih
    exact this _
  | _ => cases e
section
variable {X : Cx} {Ta : List Addr} {nm : Str} {r r2 : DR} {e e2 : Expr} {pos p tpos : Pos} {elts : List Expr} {kk : Nat}
@[simp] def riZipG (r r2 : DR) : DRI := fun E q => r E fun d => r2 E fun d' => ∃ xs ys, itemsD d = some xs ∧ itemsD d' = some ys ∧ q (pairsD xs ys)
theorem di_zipG (hg : Gl X "zip") (hm : X.mg "zip" = none) (h : PE X e (tD Ta nm r)) (h' : PE X e2 (tD Ta nm r2))
    (hs : starEach [e, e2] X.env = (false, eval e X.env) :: starEach [e2] X.env := by rfl) (hs2 : starEach [e2] X.env = [(false, eval e2 X.env)] := by rfl) (hpl : (backTo pos (starEach [e2] X.env)).any (·.1) = false := by rfl) :
    PI X (.Tuple elts kk tpos) (.Call (.Name "zip" p) [e, e2] [] pos) (tDI Ta nm (riZipG r r2)) :=
  PIx.weak (pi_zipG hg hm (pa_cons h (pa_cons h' pa_nil (hs := hs2)) (hs := hs)) hs hpl) fun σ H R ⟨C, E, q, s, hr, k⟩ => ⟨C, E, _, s, hr, fun d v H1 g1 k1 sd hq1 => ⟨C, E, _, s.step g1 k1, hq1, fun d' v' H2 g2 k2 sd' ⟨xs, ys, ex, ey, hq⟩ => by
    have sd := sd.sm (Go.zof (σ := σ) (E := E) g2)
    obtain ⟨u1, vs, rfl, s1, a1, b1⟩ := src_of (K := X.K) sd ex
    obtain ⟨u2, ws, rfl, s2, a2, b2⟩ := src_of (K := X.K) sd' ey
    refine ⟨u1, u2, vs, ws, rfl, a1, a2, k _ _ H2 (g1.trans g2) k2 (fun H3 i kp => ⟨fun ei => ⟨vs, ws, b1 H3 kp, b2 H3 kp, by rw [ei, pairs_len, s1.len, s2.len]⟩, fun d hd => ?_⟩) hq⟩
    obtain ⟨x, y, hx, hy, rfl⟩ := pairs_get hd
    have hi := (List.getElem?_eq_some_iff.mp hx).1
    have hj := (List.getElem?_eq_some_iff.mp hy).1
    refine ⟨⟨vs, ws, b1 H3 kp, b2 H3 kp, by rw [s1.len]; exact hi, by rw [s2.len]; exact hj⟩, fun z H4 yy => ?_⟩
    obtain ⟨T, w, w', rfl, hT, rfl, hw, hw'⟩ := yy
    obtain ⟨d1, e1, e2⟩ := s1.get (hw vs (b1 H3 kp))
    obtain ⟨d2, f1, f2⟩ := s2.get (hw' ws (b2 H3 kp))
    rw [hx] at e1
    rw [hy] at f1
    cases e1
    cases f1
    exact tup_item hT e2 f2⟩⟩
end
end Zk

set_option maxHeartbeats 1000000
/-! V31: comprehensions with two walks; texts times ints; is for bools. -/
namespace Zk
open PySem PySem.Spec PyProof.Rows L2 GxR
section
variable {Ta : List Addr} {nm : Str} {C : DC Ta nm} {H H' : Hp} {σ σ2 : L2.St} {E E2 : DEnv}
/-- the same slots over a heap in which the list D was written to -/
theorem St.rebase {H0 : Hp} {σ0 : L2.St} {E0 : DEnv} {D : Addr} {oD : HO} (s : St (lcC C H0 σ0 E0 D) H σ E) (g : ∀ b o, b ≠ D → H b = some o → (∀ ps, o ≠ .tbl ps) → ¬ C.Dk b → H' b = some o) (hD : H' D = some oD) (nt : ∀ ps, oD ≠ .tbl ps) (k : Ok C H') : St (lcC C H' σ E D) H' σ E := by
  have zD : (lcC C H0 σ0 E0 D).Z0 D := .inr rfl
  have dkeq : ∀ b, (lcC C H0 σ0 E0 D).Dk b ↔ C.Dk b := fun b => Iff.rfl
  have no : ∀ b, Own σ E b → b ≠ D := fun b o e => (own_none s o).2 (by rw [e]; exact zD)
  have he : ∀ b o, H' b = some o → (∀ ps, o ≠ .tbl ps) → ¬ Own σ E b → (lcC C H' σ E D).He b ≠ none := fun b o e n no => by
    have : msk (Own σ E) (ntb H') b = some o := msk_some.mpr ⟨no, ntb_of e n⟩
    show msk (Own σ E) (ntb H') b ≠ none
    rw [this]
    exact fun z => nomatch z
  have zz : ∀ b, Zof (lcC C H' σ E D) σ E b ↔ Zof (lcC C H0 σ0 E0 D) σ E b := fun b => Iff.rfl
  have sm : Sm (msk (Zof (lcC C H0 σ0 E0 D) σ E) H) (msk (Zof (lcC C H' σ E D) σ E) H') := fun b o e n => by
    obtain ⟨z, e⟩ := msk_some.mp e
    exact msk_some.mpr ⟨z, g b o (fun y => z (.inl (by rw [y]; exact zD))) e n fun kk => z (.inr (.inl kk))⟩
  have nd : ∀ a, Own σ E a → ¬ C.Dk a := fun a o kk => s.wf.dk a kk (own_none s o).1
  refine ⟨⟨fun b kd => ?_, fun b z => ?_, fun b ps e => (ntb_to (msk_some.mp e).2).2 ps rfl⟩, fun b o e _ _ => (ntb_to (msk_some.mp e).2).1, ⟨k.tb, k.dk⟩, s.len, fun i e he' => ?_, s.dist⟩
  · obtain ⟨o, e, n⟩ := k.at (b := b) kd
    exact he b o e n fun o' => s.wf.dk b kd (own_none s o').1
  · by_cases y : b = D
    · subst y
      exact he b _ hD nt fun o' => no b o' rfl
    · obtain ⟨o, e, n⟩ := s.tracked (s.wf.zin b z)
      by_cases kd : C.Dk b
      · obtain ⟨o, e, n⟩ := k.at kd
        exact he b o e n fun o' => (own_none s o').2 z
      · exact he b o (g b o y e n kd) n fun o' => (own_none s o').2 z
  · obtain ⟨o, ho, z⟩ := s.slot i e he'
    refine ⟨o, ho, ?_⟩
    cases e with
    | d x => obtain ⟨v, e, sd⟩ := z; exact ⟨v, e, sd.sm sm⟩
    | deck => exact z
    | no => trivial
    | lst xs =>
      obtain ⟨a, ws, rfl, h, sd, n0, n1⟩ := z
      have ow : Own σ E a := ⟨i, _, he', rfl, ho⟩
      refine ⟨a, ws, rfl, g a _ (no a ow) h (fun _ z => nomatch z) (nd a ow), sd.sm sm, ?_, n1⟩
      show msk (Own σ E) (ntb H') a = none
      unfold msk
      exact if_pos ow
    | dic xs =>
      obtain ⟨a, ws, rfl, h, sd, n0, n1⟩ := z
      have ow : Own σ E a := ⟨i, _, he', rfl, ho⟩
      refine ⟨a, ws, rfl, g a _ (no a ow) h (fun _ z => nomatch z) (nd a ow), SdKs.sm sm sd, ?_, n1⟩
      show msk (Own σ E) (ntb H') a = none
      unfold msk
      exact if_pos ow
    | dct xs =>
      obtain ⟨a, ws, rfl, h, sd, n0, n1⟩ := z
      have ow : Own σ E a := ⟨i, _, he', rfl, ho⟩
      refine ⟨a, ws, rfl, g a _ (no a ow) h (fun _ z => nomatch z) (nd a ow), SdKs.sm sm sd, ?_, n1⟩
      show msk (Own σ E) (ntb H') a = none
      unfold msk
      exact if_pos ow
theorem own_back {vs : List Nat} {b : Addr} (no : NoOwn E vs) (w1 : wipe σ2 vs = wipe σ vs) (w2 : wipeE E2 vs = wipeE E vs) (o : Own σ E b) : Own σ2 E2 b := by
  obtain ⟨j, u, h1, h2, h3⟩ := o
  have hj : j ∉ vs := fun m => by
    rw [no j m u h1] at h2
    cases h2
  refine ⟨j, u, ?_, h2, ?_⟩
  · have := congrArg (fun (l : DEnv) => l[j]?) w2
    rw [wipeE_get' hj, wipeE_get' hj] at this
    rw [this]
    exact h1
  · have := congrArg (fun (l : L2.St) => l[j]?) w1
    rw [wipe_get hj, wipe_get hj] at this
    rw [this]
    exact h3
end
section
variable {X : Cx} {Ta : List Addr} {nm : Str} {elt tg iter tg1 iter1 e : Expr} {ifs ifs1 : List Expr} {scope : Scope} {own : List (Str × Nat)} {pos p : Pos} {ri ri1 : DRI} {g g1 : TG} {rg rg1 : DRG} {gs gs1 : List Nat} {rt rt1 : DRT} {re : DR}
def rLc2 (vs vs1 : List Nat) (ri : DRI) (rg : DRG) (rt : DRT) (ri1 : DRI) (rg1 : DRG) (rt1 : DRT) (re : DR) : DR := fun E q => NoOwn E vs ∧ ri E fun xs => ∃ I : Nat → List PyData → Prop, I 0 [] ∧
  (∀ i d acc, xs[i]? = some d → I i acc → rg d (wipeE E vs) fun E2 => rt E2 fun b => if b = true then NoOwn E2 vs1 ∧ ri1 E2 (fun ys => ∃ I1 : Nat → List PyData → Prop, I1 0 acc ∧
      (∀ j d' acc', ys[j]? = some d' → I1 j acc' → rg1 d' (wipeE E2 vs1) fun E3 => rt1 E3 fun b => if b = true then re E3 fun y => acc'.length < sizeLine ∧ I1 (j + 1) (acc' ++ [y]) else I1 (j + 1) acc') ∧ ∀ acc', I1 ys.length acc' → I (i + 1) acc') else I (i + 1) acc) ∧ ∀ acc, I xs.length acc → q (.list acc)
theorem lc2_run {vs vs1 : List Nat} (hgs : GS Ta nm gs g rg) (hsub : ∀ j ∈ gs, j ∈ vs) (hgs1 : GS Ta nm gs1 g1 rg1) (hsub1 : ∀ j ∈ gs1, j ∈ vs1) : ∀ σ H Q, tD Ta nm (rLc2 vs vs1 ri rg rt ri1 rg1 rt1 re) σ H Q → tLc2 (tDI Ta nm ri) g (tDT Ta nm rt) (tDI Ta nm ri1) g1 (tDT Ta nm rt1) (tD Ta nm re) vs vs1 σ H Q := fun σ H Q ⟨C, E, q, s, ⟨no, hr⟩, k⟩ =>
  ⟨C, E, _, s, hr, fun xs J H1 g0 k0 walk ⟨I, i0, step, fin⟩ D hD => by
    have s1 := s.step g0 k0
    have nZ : ¬ Zof C σ E D := s1.new hD
    let Z' : Addr → Prop := fun b => Zof C σ E b ∨ b = D
    let Inv' : (List PyData → Prop) → Hp → Prop := fun P H' => ∃ acc vacc, H' D = some (.lst vacc) ∧ SdL (msk Z' H') vacc acc ∧ P acc ∧ Go C H1 H' ∧ Ok C H'
    refine ⟨fun i m H' => m = xs.length - i ∧ i ≤ xs.length ∧ Inv' (I i) H', ⟨xs.length, by simp, Nat.zero_le _, [], [], upd_same, .nil, i0, Same.go (same_new hD _), k0.same (same_new hD _)⟩, ?_⟩
    rintro i m H' ⟨rfl, hi, acc, vacc, eD, sacc, hI, g', k'⟩
    have kp := go_keep s1 g'
    by_cases hlt : i < xs.length
    · have hd : xs[i]? = some xs[i] := List.getElem?_eq_getElem hlt
      generalize xs[i] = d at hd
      obtain ⟨go, item⟩ := (walk H' i kp).2 d hd
      refine .inr ⟨go, Inv' (I (i + 1)), fun H2 h2 => ⟨xs.length - (i + 1), by omega, rfl, hlt, h2⟩, fun x H3 y => ?_⟩
      obtain ⟨sa, nt, it⟩ := item x H3 y
      have t0 := lc_in s1 g' k' hD eD
      have t1 := t0.wiped no
      have t3 := t1.step (Same.go sa) (t1.ok.same sa)
      have e3 : H3 D = some (.lst vacc) := sa _ _ eD
      have sdx : Sd (msk (Zof (lcC C H' σ E D) (wipe σ vs) (wipeE E vs)) H3) x d := it _ (fun b o e n => by
          obtain ⟨z, e⟩ := msk_some.mp e
          refine msk_some.mpr ⟨fun y => ?_, sa _ _ (g' b o e n fun k => z (Zof.dk k))⟩
          rcases zof_lc.mp ((zof_wipe no).mp y) with y | y
          · exact z y
          · rw [y, hD] at e
            cases e) fun b o e1 e2 => msk_some.mpr ⟨t1.new e1, e2⟩
      have goC : ∀ {A B : Hp}, Go (lcC C H' σ E D) A B → Go C A B := fun h => h
      have off : ∀ {A B : Hp} {w : List V}, Go C A B → A D = some (.lst w) → B D = some (.lst w) := fun h e => h D _ e (fun _ z => nomatch z) fun k => nZ (Zof.dk k)
      have keepZ : ∀ {A B : Hp} {w : List V} {a : List PyData}, Go C A B → SdL (msk Z' A) w a → SdL (msk Z' B) w a := fun h z => z.sm' (h.msk fun b k => .inl (Zof.dk k))
      refine hgs _ H3 _ _ x d _ _ t3 sdx (step i d acc hd hI) fun σ2 E2 t4 hw h4 => ?_
      obtain ⟨w1, w2⟩ := hw.2 vs hsub
      have w1' : wipe σ2 vs = wipe σ vs := w1.trans (wipe_wipe vs)
      have w2' : wipeE E2 vs = wipeE E vs := by
        rw [w2]
        refine List.ext_getElem? fun j => ?_
        by_cases h : j ∈ vs
        · have none_at : ∀ (ρ : DEnv) (ws : List Nat), j ∈ ws → j < ρ.length → (wipeE ρ ws)[j]? = some .no := by
            intro ρ ws
            induction ws with
            | nil => intro h; exact absurd h List.not_mem_nil
            | cons w ws ih =>
              intro h hi
              show ((wipeE ρ ws).set w .no)[j]? = _
              by_cases e : w = j
              · subst e
                rw [List.getElem?_set_self (by rw [wipeE_len]; exact hi)]
              · rw [List.getElem?_set_ne e]
                rcases List.mem_cons.mp h with q | q
                · exact absurd q.symm e
                · exact ih q hi
          by_cases hi : j < E.length
          · rw [none_at _ _ h (by rw [wipeE_len]; exact hi), none_at _ _ h hi]
          · rw [List.getElem?_eq_none (by rw [wipeE_len, wipeE_len]; omega), List.getElem?_eq_none (by rw [wipeE_len]; omega)]
        · rw [wipeE_get' h]
      refine ⟨w1', _, E2, _, t4, h4, fun b H4 g4 k4 hq => ?_⟩
      have gA : Go C H' H4 := (Same.go sa).trans (goC g4)
      cases b with
      | false => exact ⟨acc, vacc, off (goC g4) e3, keepZ gA sacc, hq, g'.trans gA, ⟨k4.tb, k4.dk⟩⟩
      | true =>
        obtain ⟨no1, hq⟩ := hq
        have t4' := t4.step g4 k4
        refine ⟨_, E2, _, t4', hq, fun ys J1 H5 g5 k5 walk1 ⟨I1, j0, step1, fin1⟩ => ?_⟩
        have t5 := t4'.step g5 k5
        have e5 := off (goC g5) (off (goC g4) e3)
        have gB : Go C H' H5 := gA.trans (goC g5)
        have less2 : ∀ b, Z' b → Zof (lcC C H' σ E D) σ2 E2 b := fun b z => by
          rcases z with (z | z | z) | z
          · exact .inl (.inl z)
          · exact .inr (.inl z)
          · exact .inr (.inr (own_back no w1' w2' z))
          · exact .inl (.inr z)
        let In1 : (List PyData → Prop) → Hp → Prop := fun P H'' => ∃ acc vacc, H'' D = some (.lst vacc) ∧ SdL (msk Z' H'') vacc acc ∧ P acc ∧ Go C H1 H'' ∧ Ok C H'' ∧ (∀ b o, b ≠ D → H5 b = some o → (∀ ps, o ≠ .tbl ps) → ¬ C.Dk b → H'' b = some o) ∧ St (lcC C H'' σ2 E2 D) H'' σ2 E2
        have base := t5.rebase (H' := H5) (fun b o _ e _ _ => e) e5 (fun _ z => nomatch z) ⟨k5.tb, k5.dk⟩
        refine ⟨fun j m H'' => m = ys.length - j ∧ j ≤ ys.length ∧ In1 (I1 j) H'', ⟨ys.length, by simp, Nat.zero_le _, acc, vacc, e5, keepZ gB sacc, j0, g'.trans gB, ⟨k5.tb, k5.dk⟩, fun b o _ e _ _ => e, base⟩, ?_⟩
        rintro j m H6 ⟨rfl, hj, acc1, vacc1, eD1, sacc1, hI1, g6, k6, kp6, t6⟩
        have kp1 : Keep (Zof (lcC C H' σ E D) σ2 E2) H5 H6 := fun b o e n z => kp6 b o (fun y => z (.inl (.inr y))) e n fun kk => z (.inr (.inl kk))
        by_cases hlt1 : j < ys.length
        · have hd1 : ys[j]? = some ys[j] := List.getElem?_eq_getElem hlt1
          generalize ys[j] = d1 at hd1
          obtain ⟨go1, item1⟩ := (walk1 H6 j kp1).2 d1 hd1
          refine .inr ⟨go1, In1 (I1 (j + 1)), fun H2 h2 => ⟨ys.length - (j + 1), by omega, rfl, hlt1, h2⟩, fun x1 H7 y1 => ?_⟩
          obtain ⟨sa1, nt1, it1⟩ := item1 x1 H7 y1
          have u1 := t6.wiped no1
          have u3 := u1.step (Same.go sa1) (u1.ok.same sa1)
          have e7 : H7 D = some (.lst vacc1) := sa1 _ _ eD1
          have sdx1 : Sd (msk (Zof (lcC C H6 σ2 E2 D) (wipe σ2 vs1) (wipeE E2 vs1)) H7) x1 d1 := it1 _ (fun b o e n => by
              obtain ⟨z, e⟩ := msk_some.mp e
              refine msk_some.mpr ⟨fun y => z ?_, sa1 _ _ (kp6 b o (fun y => z (.inl (.inr y))) e n fun kk => z (.inr (.inl kk)))⟩
              exact (zof_wipe no1).mp y) fun b o e1 e2 => msk_some.mpr ⟨u1.new e1, e2⟩
          refine hgs1 _ H7 _ _ x1 d1 _ _ u3 sdx1 (step1 j d1 acc1 hd1 hI1) fun σ3 E3 t8 hw1 h8 => ?_
          obtain ⟨v1, v2⟩ := hw1.2 vs1 hsub1
          refine ⟨v1.trans (wipe_wipe vs1), _, E3, _, t8, h8, fun b H8 g8 k8 hq8 => ?_⟩
          have gC : Go C H6 H8 := (Same.go sa1).trans g8
          have up8 : ∀ b o, b ≠ D → H6 b = some o → (∀ ps, o ≠ .tbl ps) → ¬ C.Dk b → H8 b = some o := fun b o _ e n d => gC b o e n d
          cases b with
          | false =>
            have e8 := off g8 e7
            exact ⟨acc1, vacc1, e8, keepZ gC sacc1, hq8, g6.trans gC, ⟨k8.tb, k8.dk⟩, fun b o n e t d => up8 b o n (kp6 b o n e t d) t d, t6.rebase up8 e8 (fun _ z => nomatch z) ⟨k8.tb, k8.dk⟩⟩
          | true =>
            refine ⟨_, E3, _, t8.step g8 k8, hq8, fun y v H9 g9 k9 sd ⟨hl, hI'⟩ => ?_⟩
            have e9 := off g9 (off g8 e7)
            have gD : Go C H6 H9 := gC.trans g9
            have less3 : ∀ b, Z' b → Zof (lcC C H6 σ2 E2 D) σ3 E3 b := fun b z => by
              rcases less2 b z with z | z | z
              · exact .inl z
              · exact .inr (.inl z)
              · refine .inr (.inr (own_back (vs := vs1) no1 (v1.trans (wipe_wipe vs1)) ?_ z))
                rw [v2]
                refine List.ext_getElem? fun j => ?_
                by_cases h : j ∈ vs1
                · have none_at : ∀ (ρ : DEnv) (ws : List Nat), j ∈ ws → j < ρ.length → (wipeE ρ ws)[j]? = some .no := by
                    intro ρ ws
                    induction ws with
                    | nil => intro h; exact absurd h List.not_mem_nil
                    | cons w ws ih =>
                      intro h hi
                      show ((wipeE ρ ws).set w .no)[j]? = _
                      by_cases e : w = j
                      · subst e
                        rw [List.getElem?_set_self (by rw [wipeE_len]; exact hi)]
                      · rw [List.getElem?_set_ne e]
                        rcases List.mem_cons.mp h with q | q
                        · exact absurd q.symm e
                        · exact ih q hi
                  by_cases hi : j < E2.length
                  · rw [none_at _ _ h (by rw [wipeE_len]; exact hi), none_at _ _ h hi]
                  · rw [List.getElem?_eq_none (by rw [wipeE_len, wipeE_len]; omega), List.getElem?_eq_none (by rw [wipeE_len]; omega)]
                · rw [wipeE_get' h]
            have nD : Z' D := .inr rfl
            have mskD : ∀ o, Sm (msk Z' H9) (msk Z' (upd H9 D o)) := fun o b u e _ => by
              obtain ⟨z, e⟩ := msk_some.mp e
              exact msk_some.mpr ⟨z, (upd_ne (fun y : b = D => z (by rw [y]; exact nD))).trans e⟩
            have okD : Ok C (upd H9 D (.lst (vacc1 ++ [v]))) := by
              refine ⟨fun P hP => ?_, fun c hc => ?_⟩
              · obtain ⟨ps, e, t⟩ := k9.tb P hP
                exact ⟨ps, (upd_ne (fun y : P = D => by rw [y, e9] at e; cases e)).trans e, t⟩
              · obtain ⟨l, m, dd, a1, a2, r⟩ := k9.dk c hc
                exact ⟨l, m, dd, (upd_ne (fun y : c.1 = D => nZ (Zof.dk ⟨c, hc, .inl y.symm⟩))).trans a1, (upd_ne (fun y : c.2 = D => nZ (Zof.dk ⟨c, hc, .inr y.symm⟩))).trans a2, r⟩
            have up9 : ∀ b o, b ≠ D → H6 b = some o → (∀ ps, o ≠ .tbl ps) → ¬ C.Dk b → upd H9 D (.lst (vacc1 ++ [v])) b = some o := fun b o nb e n d => (upd_ne nb).trans (gD b o e n d)
            refine ⟨vacc1, e9, by rw [sacc1.len]; exact hl, acc1 ++ [y], vacc1 ++ [v], upd_same, ((keepZ gD sacc1).app (.cons (sd.sm (msk_less less3)) .nil)).sm' (mskD _), hI', ?_, okD, fun b o n e t d => up9 b o n (kp6 b o n e t d) t d, t6.rebase up9 upd_same (fun _ z => nomatch z) okD⟩
            exact fun b o e n d => (upd_ne (fun y : b = D => by rw [y, hD] at e; cases e)).trans ((g6.trans gD) b o e n d)
        · have e : j = ys.length := by omega
          exact .inl ⟨(walk1 H6 j kp1).1 e, acc1, vacc1, eD1, sacc1, fin1 acc1 (e ▸ hI1), g6, k6⟩
    · have e : i = xs.length := by omega
      exact .inl ⟨(walk H' i kp).1 e, k (.list acc) (.ref D) H' (g0.trans g') k' (.lst (msk_some.mpr ⟨nZ, eD⟩) (sacc.sm' (msk_less fun b z => .inl z))) (fin acc (e ▸ hI))⟩⟩
theorem dx_lc2 (hc : X.calm = true) (hN : X.N.Nodup) (hi : PI X tg iter (tDI Ta nm ri)) (ok : BlkOk X.N X.env.scope scope own) {vs1 : List Nat} (hv : ∀ i ∈ vs1, i ∈ own.map (·.2))
    (hg : ∀ (s : Shared) (H : Hp) (C : Addr) (cl : List (Str × Addr)) (fp : List Addr), PG (X.blk s H scope (compEnvC scope cl C X.env) fp) tg g) (hgs : GS Ta nm gs g rg) (hsub : ∀ j ∈ gs, j ∈ own.map (·.2)) (ht : ∀ (s : Shared) (H : Hp) (C : Addr) (cl : List (Str × Addr)) (fp : List Addr), PTs (X.blk s H scope (compEnvC scope cl C X.env) fp) ifs (tDT Ta nm rt))
    (hi1 : ∀ (s : Shared) (H : Hp) (C : Addr) (cl : List (Str × Addr)) (fp : List Addr), PI (X.blk s H scope (compEnvC scope cl C X.env) fp) tg1 iter1 (tDI Ta nm ri1))
    (hg1 : ∀ (s : Shared) (H : Hp) (C : Addr) (cl : List (Str × Addr)) (fp : List Addr), PG (X.blk s H scope (compEnvC scope cl C X.env) fp) tg1 g1) (hgs1 : GS Ta nm gs1 g1 rg1) (hsub1 : ∀ j ∈ gs1, j ∈ vs1) (ht1 : ∀ (s : Shared) (H : Hp) (C : Addr) (cl : List (Str × Addr)) (fp : List Addr), PTs (X.blk s H scope (compEnvC scope cl C X.env) fp) ifs1 (tDT Ta nm rt1))
    (he : ∀ (s : Shared) (H : Hp) (C : Addr) (cl : List (Str × Addr)) (fp : List Addr), PE (X.blk s H scope (compEnvC scope cl C X.env) fp) elt (tD Ta nm re)) (hs : ∀ x, foldedSetIterable iter X.env x = pure x := by intro _; rfl) (hs1 : ∀ env x, foldedSetIterable iter1 env x = pure x := by intro _ _; rfl) :
    PE X (.ListComp elt [⟨tg, iter, ifs, 0⟩, ⟨tg1, iter1, ifs1, 0⟩] scope pos) (tD Ta nm (rLc2 (own.map (·.2)) vs1 ri rg rt ri1 rg1 rt1 re)) := PE.weak (pe_lc2 hc hN hi ok hv hg ht hi1 hg1 ht1 he hs hs1) (lc2_run hgs hsub hgs1 hsub1)
end
/-! ### what it comes to -/
section
variable {vs vs1 : List Nat} {ri ri1 : DRI} {re : DR} {E : DEnv} {q : PyData → Prop} {i i1 : Nat}
/-- [e for x in xs for y in ys(x)] -/
theorem rLc2_map {f : PyData → List PyData} {h : PyData → PyData → PyData} (xs : List PyData) (N : Nat) (hN : N ≤ sizeLine) (no : NoOwn E vs) (hi : i < E.length) (hi1 : i1 < E.length) (no1 : ∀ d ∈ xs, NoOwn ((wipeE E vs).set i (.d d)) vs1) (hl : (xs.flatMap fun d => (f d).map (h d)).length ≤ N) (hri : ∀ q' : List PyData → Prop, q' xs → ri E q')
    (hri1 : ∀ d ∈ xs, ∀ q' : List PyData → Prop, q' (f d) → ri1 ((wipeE E vs).set i (.d d)) q') (hre : ∀ d ∈ xs, ∀ d' ∈ f d, ∀ q' : PyData → Prop, q' (h d d') → re ((wipeE ((wipeE E vs).set i (.d d)) vs1).set i1 (.d d')) q') (hq : q (.list (xs.flatMap fun d => (f d).map (h d)))) :
    rLc2 vs vs1 ri (rgN i) rtYes ri1 (rgN i1) rtYes re E q := by
  refine ⟨no, hri _ ⟨fun k acc => acc = (xs.take k).flatMap fun d => (f d).map (h d), rfl, fun k d acc hd hI => ⟨by rw [wipeE_len]; exact hi, ?_⟩, fun acc hI => ?_⟩⟩
  · dsimp only [rtYes]
    have hm := List.mem_of_getElem? hd
    refine iteT ⟨no1 d hm, hri1 d hm _ ⟨fun j acc' => acc' = acc ++ ((f d).take j).map (h d), by simp, fun j d' acc' hd' hI' => ⟨by rw [wipeE_len, List.length_set, wipeE_len]; exact hi1, ?_⟩, fun acc' hI' => ?_⟩⟩
    · dsimp only [rtYes]
      have hm' := List.mem_of_getElem? hd'
      refine iteT (hre d hm d' hm' _ ⟨?_, ?_⟩)
      · have e1 : (acc' ++ [h d d']).length ≤ (xs.flatMap fun d => (f d).map (h d)).length := by
          have e2 : acc' ++ [h d d'] = ((xs.take k).flatMap fun d => (f d).map (h d)) ++ ((f d).take (j + 1)).map (h d) := by
            rw [hI', hI, List.take_succ, hd', List.map_append, ← List.append_assoc]
            rfl
          have e3 : (xs.flatMap fun d => (f d).map (h d)) = ((xs.take k).flatMap fun d => (f d).map (h d)) ++ (((f d).take (j + 1)).map (h d) ++ (((f d).drop (j + 1)).map (h d) ++ (xs.drop (k + 1)).flatMap fun d => (f d).map (h d))) := by
            have e4 : xs = xs.take k ++ d :: xs.drop (k + 1) := by
              have := List.take_append_drop k xs
              rw [List.drop_eq_getElem_cons (List.getElem?_eq_some_iff.mp hd).1, (List.getElem?_eq_some_iff.mp hd).2] at this
              exact this.symm
            conv => lhs; rw [e4]
            rw [List.flatMap_append, List.flatMap_cons, ← List.append_assoc ((f d).take (j + 1) |>.map (h d)), ← List.map_append, List.take_append_drop]
          rw [e2, e3, List.length_append, List.length_append, List.length_append]
          omega
        rw [List.length_append] at e1
        simp only [List.length_cons, List.length_nil] at e1
        omega
      · show acc' ++ [h d d'] = acc ++ ((f d).take (j + 1)).map (h d)
        rw [hI', List.take_succ, hd', List.map_append, List.append_assoc]
        rfl
    · dsimp only at hI' ⊢
      rw [List.take_length] at hI'
      rw [hI', hI, List.take_succ, hd, List.flatMap_append]
      simp
  · dsimp only at hI
    rw [List.take_length] at hI
    rw [hI]
    exact hq
end
/-! ### text * int, is for bools, sorted(d) -/
section
variable {X : Cx}
def repS (x : Str) (n : Nat) : Str := ⟨(List.replicate n x.cps).foldl (· ++ ·) #[]⟩
theorem repS_cps (x : Str) (n : Nat) : (repS x n).cps.toList = (List.replicate n x.cps.toList).flatten := by
  have : ∀ (l : List (Array Nat)) (a : Array Nat), (l.foldl (· ++ ·) a).toList = a.toList ++ (l.map Array.toList).flatten := fun l => by
    induction l with
    | nil => intro a; simp
    | cons b l ih =>
      intro a
      rw [List.foldl_cons, ih]
      simp
  unfold repS
  rw [this]
  simp
theorem repS_len (x : Str) (n : Nat) : (repS x n).length = n * x.length := by
  rw [str_len, repS_cps, str_len]
  simp
def rRepS : R2 := fun x y H Q => ∃ (z : Str) (k : Nat), x = .str z ∧ y = .int k ∧ 1 ≤ k ∧ k ≤ 1000 ∧ 1 ≤ z.length ∧ z.length ≤ 1000 ∧ Q (.str (repS z k)) H
theorem op_repS : OpR X (binaryOp .Mult) rRepS := by
  intro pins s σ H x y v u Q I rx ry h
  obtain ⟨z, k, rfl, rfl, h1, h2, h3, h4, q⟩ := h
  obtain ⟨t, rfl⟩ := rx
  obtain ⟨t', rfl⟩ := ry
  have hb : z.length * k ≤ 1000000 := Nat.le_trans (Nat.mul_le_mul h4 h2) (by decide)
  refine PySem.P.mul_str (by rw [decide_eq_false (by omega), decide_eq_false (by omega)]; rfl) (fun _ _ => ?_) (fun _ _ => ?_) ?_
  · have h5 : ((z.length : Int)) ≤ (2 ^ 63 - 1) / (k : Int) := Int.le_ediv_of_mul_le (by omega) (by
      have : ((z.length * k : Nat) : Int) ≤ 1000000 := by omega
      rw [Int.natCast_mul] at this
      omega)
    omega
  · unfold Builtin.Str.tooLong
    have : z.length * (k : Int).toNat ≤ sizeLine := Nat.le_trans (by simpa using hb) (by decide)
    simpa using this
  · rw [if_neg (by omega)]
    by_cases e : k = 1
    · subst e
      rw [if_pos (by simp)]
      have e1 : repS z 1 = z := str_ext (by rw [repS_cps]; simp)
      rw [e1] at q
      exact ⟨.str z, H, I, ⟨t, rfl⟩, q⟩
    · rw [if_neg (by
        have a : ((k : Int) == 1) = false := by rw [beq_eq_false_iff_ne]; omega
        have b : (z.length == 0) = false := by rw [beq_eq_false_iff_ne]; omega
        rw [a, b]
        decide)]
      refine ⟨?_, .str (repS z k), H, I.tok _, ⟨s.toks, by simp [repS]⟩, q⟩
      have := repS_len z k
      unfold repS at this
      simp only [Int.toNat_natCast]
      rw [this, Nat.mul_comm]
      exact Nat.le_trans hb (by decide)
@[simp] def gRepS : DG2 := fun d e q => ∃ (z : Str) (k : Nat), d = .str z ∧ e = .int k ∧ 1 ≤ k ∧ k ≤ 1000 ∧ 1 ≤ z.length ∧ z.length ≤ 1000 ∧ q (.str (repS z k))
theorem opS_repS : OpS rRepS gRepS := fun Z H x y d e q Q _ hx hy ⟨z, k, e1, e2, h1, h2, h3, h4, hq⟩ kk => by
  subst e1 e2
  exact ⟨z, k, sd_str hx, sd_int hy, h1, h2, h3, h4, kk _ _ H (Same.refl _) (.str _) hq⟩
@[simp] def gIsB (n : Bool) : DG2 := fun d e q => ∃ a b, d = .bool a ∧ e = .bool b ∧ q (.bool (n != decide (a = b)))
theorem opS_isB : OpS rIsB (gIsB false) := fun Z H x y d e q Q _ hx hy ⟨a, b, e1, e2, hq⟩ k => by
  subst e1 e2
  exact ⟨a, b, sd_bool hx, sd_bool hy, k _ _ H (Same.refl _) (.bl _) (by simpa using hq)⟩
theorem opS_notB : OpS rNotB (gIsB true) := fun Z H x y d e q Q _ hx hy ⟨a, b, e1, e2, hq⟩ k => by
  subst e1 e2
  exact ⟨a, b, sd_bool hx, sd_bool hy, k _ _ H (Same.refl _) (.bl _) (by simpa using hq)⟩
theorem sdKs_keys {M : Hp} : ∀ {ks : List (Key × V)} {kvs : List (Key × PyData)}, SdKs M ks kvs → ks.map (·.1) = kvs.map (·.1)
  | _, _, .nil => rfl
  | _, _, .cons h t => by rw [List.map_cons, List.map_cons, sdKs_keys t, h.1]
theorem callS_sortDict : CallS (fun xs H Q => ∃ (a : Addr) (kvs : List (Key × V)) (ks : List Str), xs = [.ref a] ∧ Rd H a (.dK kvs) ∧ kvs.map (·.1) = ks.map Sum.inr ∧ ks.length < 64 ∧ ∀ ys p, ys.Perm ks → sortedS ys = true → H p = none → Q (.ref p) (upd H p (.lst (ys.map V.str)))) gSortDict := fun Z H xs ds q Q nz sds ⟨kvs, zs, e, hk, hl, hq⟩ k => by
  subst e
  obtain ⟨v, rfl, s⟩ := sd1 sds
  obtain ⟨a, ks, rfl, ha, sk⟩ := sd_dict s
  exact ⟨a, ks, zs, rfl, .inl (msk_some.mp ha).2, by rw [sdKs_keys sk]; exact hk, hl, fun ys p h1 h2 hp => k _ _ _ (same_new hp _) (.lst (msk_at (nz p hp)) (strs_sd ys)) (hq ys h1 h2)⟩
end
end Zk

set_option maxHeartbeats 1000000
/-! V32: all, any, comprehensions over pairs and with tests. -/
namespace Zk
open PySem PySem.Spec PyProof.Rows L2 GxR TL SX
section
variable {vs : List Nat} {ri : DRI} {rg : DRG} {re : DR} {rt : DRT} {E : DEnv} {q : PyData → Prop} {i : Nat} {f p : PyData → Bool}
/-- any(e for t in xs), whatever the target t -/
theorem rAll_anyG (xs : List PyData) (no : NoOwn E vs) (hri : ∀ q' : List PyData → Prop, q' xs → ri E q') (hre : ∀ d ∈ xs, ∀ q' : PyData → Prop, q' (.bool (f d)) → rg d (wipeE E vs) fun E2 => re E2 q') (hq : q (.bool (xs.any f))) : rAll false vs ri rg rtYes re E q := by
  refine ⟨no, hri _ ⟨fun k => (xs.take k).any f = false, rfl, fun k d hd hI => ?_, fun h => ?_⟩⟩
  · have e : (fun E2 => rtYes E2 fun b => if b = true then re E2 fun y => ∃ b', y = .bool b' ∧ if b' = false then (xs.take (k + 1)).any f = false else q (.bool b') else (xs.take (k + 1)).any f = false) = fun E2 => re E2 fun y => ∃ b', y = .bool b' ∧ if b' = false then (xs.take (k + 1)).any f = false else q (.bool b') := funext fun E2 => by simp only [rtYes, if_true]
    rw [e]
    refine hre d (List.mem_of_getElem? hd) _ ⟨_, rfl, ?_⟩
    by_cases h : f d = false
    · rw [if_pos h, any_take hd, hI, h]
      rfl
    · rw [if_neg h]
      have h : f d = true := by simpa using h
      have : xs.any f = true := List.any_eq_true.mpr ⟨d, List.mem_of_getElem? hd, h⟩
      rw [this] at hq
      rw [h]
      exact hq
  · dsimp only at h
    rw [List.take_length] at h
    rw [h] at hq
    exact hq
theorem rAll_allG (xs : List PyData) (no : NoOwn E vs) (hri : ∀ q' : List PyData → Prop, q' xs → ri E q') (hre : ∀ d ∈ xs, ∀ q' : PyData → Prop, q' (.bool (f d)) → rg d (wipeE E vs) fun E2 => re E2 q') (hq : q (.bool (xs.all f))) : rAll true vs ri rg rtYes re E q := by
  refine ⟨no, hri _ ⟨fun k => (xs.take k).all f = true, rfl, fun k d hd hI => ?_, fun h => ?_⟩⟩
  · have e : (fun E2 => rtYes E2 fun b => if b = true then re E2 fun y => ∃ b', y = .bool b' ∧ if b' = true then (xs.take (k + 1)).all f = true else q (.bool b') else (xs.take (k + 1)).all f = true) = fun E2 => re E2 fun y => ∃ b', y = .bool b' ∧ if b' = true then (xs.take (k + 1)).all f = true else q (.bool b') := funext fun E2 => by simp only [rtYes, if_true]
    rw [e]
    refine hre d (List.mem_of_getElem? hd) _ ⟨_, rfl, ?_⟩
    by_cases h : f d = true
    · rw [if_pos h, all_take hd, hI, h]
      rfl
    · rw [if_neg h]
      have : xs.all f = false := by
        cases e : xs.all f with
        | false => rfl
        | true => exact absurd (List.all_eq_true.mp e d (List.mem_of_getElem? hd)) h
      rw [this] at hq
      rw [Bool.eq_false_iff.mpr h]
      exact hq
  · dsimp only at h
    rw [List.take_length] at h
    rw [h] at hq
    exact hq
/-- all(e for x in xs if t) -/
theorem rAll_allIf (xs : List PyData) (no : NoOwn E vs) (hi : i < E.length) (hri : ∀ q' : List PyData → Prop, q' xs → ri E q') (hrt : ∀ d ∈ xs, ∀ q' : Bool → Prop, q' (p d) → rt ((wipeE E vs).set i (.d d)) q') (hre : ∀ d ∈ xs, p d = true → ∀ q' : PyData → Prop, q' (.bool (f d)) → re ((wipeE E vs).set i (.d d)) q')
    (hq : q (.bool (xs.all fun d => !p d || f d))) : rAll true vs ri (rgN i) rt re E q := by
  refine ⟨no, hri _ ⟨fun k => ((xs.take k).all fun d => !p d || f d) = true, rfl, fun k d hd hI => ⟨by rw [wipeE_len]; exact hi, ?_⟩, fun h => ?_⟩⟩
  · have hm := List.mem_of_getElem? hd
    refine hrt d hm _ ?_
    by_cases hp : p d = true
    · rw [if_pos hp]
      refine hre d hm hp _ ⟨_, rfl, ?_⟩
      by_cases h : f d = true
      · rw [if_pos h]
        dsimp only at hI ⊢
        rw [all_take hd, hI, h]
        simp
      · rw [if_neg h]
        have : (xs.all fun d => !p d || f d) = false := by
          cases e : xs.all fun d => !p d || f d with
          | false => rfl
          | true =>
            have := List.all_eq_true.mp e d hm
            rw [hp] at this
            exact absurd (by simpa using this) h
        rw [this] at hq
        rw [Bool.eq_false_iff.mpr h]
        exact hq
    · rw [if_neg hp]
      dsimp only at hI ⊢
      rw [all_take hd, hI]
      have : p d = false := by simpa using hp
      rw [this]
      rfl
  · dsimp only at h
    rw [List.take_length] at h
    rw [h] at hq
    exact hq
/-- [e for t in xs if c], whatever the target t -/
theorem rLc_filterG {g : PyData → PyData} (xs : List PyData) (no : NoOwn E vs) (hl : xs.length ≤ sizeLine) (hri : ∀ q' : List PyData → Prop, q' xs → ri E q') (hrt : ∀ d ∈ xs, ∀ q' : Bool → DEnv → Prop, (∀ E2, (p d = true → ∀ q'' : PyData → Prop, q'' (g d) → re E2 q'') → q' (p d) E2) → rg d (wipeE E vs) fun E2 => rt E2 fun b => q' b E2)
    (hq : q (.list ((xs.filter p).map g))) : rLc vs ri rg rt re E q := by
  refine ⟨no, hri _ ⟨fun k acc => acc = ((xs.take k).filter p).map g, rfl, fun k d acc hd hI => ?_, fun acc h => ?_⟩⟩
  · have hm := List.mem_of_getElem? hd
    refine hrt d hm (fun b E2 => if b = true then re E2 fun y => acc.length < sizeLine ∧ acc ++ [y] = ((xs.take (k + 1)).filter p).map g else acc = ((xs.take (k + 1)).filter p).map g) fun E2 hre => ?_
    by_cases h : p d = true
    · rw [if_pos h]
      refine hre h _ ⟨?_, ?_⟩
      · have h2 := (List.getElem?_eq_some_iff.mp hd).1
        have h3 := List.length_filter_le p (xs.take k)
        rw [List.length_take] at h3
        rw [hI, List.length_map]
        omega
      · rw [List.take_succ, hd, List.filter_append, List.map_append, hI]
        simp [h]
    · rw [if_neg h]
      rw [List.take_succ, hd, List.filter_append, List.map_append, hI]
      simp [h]
  · dsimp only at h
    rw [List.take_length] at h
    rw [h]
    exact hq
end
theorem signs_map (z : Str) : signsD z = (z.cps.toList.map one).map PyData.str := by
  unfold signsD
  rw [List.map_map]
  rfl
theorem signs_len (z : Str) : (signsD z).length = z.length := by rw [str_len]; simp [signsD]
end Zk

set_option maxHeartbeats 1000000
/-! V33: one statement after another, without doubling what follows. -/
namespace Zk
open PySem PySem.Spec PyProof.Rows L2 GxR
section
variable {rt rt' : DRT} {ra rb r re : DR} {r1 r2 : DRS} {K : DEnds} {E : DEnv} {q : PyData → Prop} {i j : Nat}
theorem rIf_any (P : PyData → Prop) (ht : ∀ k : Bool → Prop, (∀ b, k b) → rt E k) (ha : ∀ q' : PyData → Prop, (∀ d, P d → q' d) → ra E q') (hb : ∀ q' : PyData → Prop, (∀ d, P d → q' d) → rb E q') (h : ∀ d, P d → q d) : rIf rt ra rb E q := ht _ fun b => by
  cases b with
  | true => exact iteT (ha q h)
  | false => exact iteF (hb q h)
theorem rIf_same (d : PyData) (ht : ∀ k : Bool → Prop, (∀ b, k b) → rt E k) (ha : ∀ q' : PyData → Prop, q' d → ra E q') (hb : ∀ q' : PyData → Prop, q' d → rb E q') (h : q d) : rIf rt ra rb E q := ht _ fun b => by
  cases b with
  | true => exact iteT (ha q h)
  | false => exact iteF (hb q h)
theorem seq_set (h : r E fun d => i < E.length ∧ r2 K (E.set i (.d d))) : rSeq (rSet i r) r2 K E := h
/-- x = e, with what is known of e -/
theorem seq_setP (P : PyData → Prop) (hr : ∀ q' : PyData → Prop, (∀ d, P d → q' d) → r E q') (hi : i < E.length) (h : ∀ d, P d → r2 K (E.set i (.d d))) : rSeq (rSet i r) r2 K E := hr _ fun d hd => ⟨hi, h d hd⟩
theorem seq_set1 (d : PyData) (hr : ∀ q' : PyData → Prop, q' d → r E q') (hi : i < E.length) (h : r2 K (E.set i (.d d))) : rSeq (rSet i r) r2 K E := hr _ ⟨hi, h⟩
theorem seq_par {rs : DRP} (a b : DV) (hr : ∀ q' : List DV → Prop, q' [a, b] → rs E q') (hi : i < E.length) (hj : j < E.length) (h : r2 K ((E.set i a).set j b)) : rSeq (rPar2 i j rs) r2 K E := hr _ ⟨a, b, rfl, hi, hj, h⟩
theorem seq_parP {rs : DRP} (P : DV → DV → Prop) (hr : ∀ q' : List DV → Prop, (∀ a b, P a b → q' [a, b]) → rs E q') (hi : i < E.length) (hj : j < E.length) (h : ∀ a b, P a b → r2 K ((E.set i a).set j b)) : rSeq (rPar2 i j rs) r2 K E := hr _ fun a b hp => ⟨a, b, rfl, hi, hj, h a b hp⟩
theorem seq_asgP {rg : DRG} (P : PyData → Prop) (hr : ∀ q' : PyData → Prop, (∀ d, P d → q' d) → r E q') (h : ∀ d, P d → rg d E (r2 K)) : rSeq (rAsg r rg) r2 K E := hr _ h
theorem or_skip (h1 : ∀ k : Bool → Prop, k false → rt E k) (h2 : ∀ k : Bool → Prop, k false → rt' E k) (k : Bool → Prop) (hk : k false) : rtOr rt rt' E k := h1 _ (iteF (h2 k hk))
/-- repr(a) != repr(b), of the same data -/
theorem repr_skip {s t : DR} (d : PyData) (hd : d.showable = true ∧ d.depth ≤ 100 ∧ d.shown.length ≤ sizeLine) (hs : ∀ q' : PyData → Prop, q' d → s E q') (ht : ∀ q' : PyData → Prop, q' d → t E q') (k : Bool → Prop) (hk : k false) : rTest (rOp (gEq true) (rCall gRepr (raCons s raNil)) (rCall gRepr (raCons t raNil))) E k := by
  obtain ⟨h1, h2, h3⟩ := hd
  refine hs _ ⟨d, rfl, h1, h2, h3, ht _ ⟨d, rfl, h1, h2, h3, ?_⟩⟩
  refine ⟨by simp, ⟨false, ?_, hk⟩⟩
  simp
/-- for over what may come in any order, and the rest -/
theorem seq_forP {ri : DRI} {rg : DRG} {rb : DRS} (P : List PyData → Prop) (hri : ∀ q' : List PyData → Prop, (∀ xs, P xs → q' xs) → ri E q') (I : List PyData → Nat → DEnv → Prop) (h0 : ∀ xs, P xs → I xs 0 E)
    (step : ∀ xs, P xs → ∀ i d E', xs[i]? = some d → I xs i E' → rg d E' fun E2 => rb { K with nx := I xs (i + 1), ct := I xs (i + 1), bk := r2 K } E2) (fin : ∀ xs, P xs → ∀ E', I xs xs.length E' → r2 K E') : rSeq (rFor ri rg rb) r2 K E := hri _ fun xs h => ⟨I xs, h0 xs h, step xs h, fin xs h⟩
theorem one_skip (h : ∀ k : Bool → Prop, k false → rt E k) (hr : K.nx E) : rIfS rt r1 rNil K E := h _ (iteF hr)
end
end Zk

set_option maxHeartbeats 1000000
/-! V34: texts compared, list(text), list * int, find, index, ljust, x.append(y.pop(i)), three arguments by keyword. -/
namespace Zk
open PySem PySem.Spec PyProof.Rows L2 GxR TL SX
section
variable {X : Cx}
/-! ### texts (or ints) compared -/
theorem op_or {f : Value → Value → Sem Value} {r r' : R2} (a : OpR X f r) (b : OpR X f r') : OpR X f (fun x y H Q => r x y H Q ∨ r' x y H Q) := by
  intro pins s σ H x y v u Q I rx ry h
  rcases h with h | h
  · exact a pins s σ H x y v u Q I rx ry h
  · exact b pins s σ H x y v u Q I rx ry h
def rLtA : R2 := fun x y H Q => (rI0 fun i j => .bl (decide (i < j))) x y H Q ∨ ∃ i j, x = .str i ∧ y = .str j ∧ Q (.bl (decide (i.cps.toList < j.cps.toList))) H
theorem op_ltA : OpR X (compareOp .Lt) rLtA := op_or op_lt op_lt_str
def gLtA : DG2 := fun d e q => (∃ i j : Int, d = .int i ∧ e = .int j ∧ q (.bool (decide (i < j)))) ∨ ∃ i j : Str, d = .str i ∧ e = .str j ∧ q (.bool (decide (i.cps.toList < j.cps.toList)))
@[simp] theorem gLtA_int {i j : Int} {q : PyData → Prop} : gLtA (.int i) (.int j) q = q (.bool (decide (i < j))) := by simp [gLtA]
@[simp] theorem gLtA_str {i j : Str} {q : PyData → Prop} : gLtA (.str i) (.str j) q = q (.bool (decide (i.cps.toList < j.cps.toList))) := by simp [gLtA]
theorem opS_ltA : OpS rLtA gLtA := fun Z H x y d e q Q nz hx hy h k => by
  rcases h with ⟨i, j, e1, e2, hq⟩ | ⟨i, j, e1, e2, hq⟩
  · exact .inl ((opS_bool (fun i j => decide (i < j))) Z H x y d e q Q nz hx hy ⟨i, j, e1, e2, hq⟩ k)
  · subst e1 e2
    exact .inr ⟨i, j, sd_str hx, sd_str hy, k _ _ H (Same.refl _) (.bl _) hq⟩
@[simp] def gLeS : DG2 := fun d e q => ∃ i j : Str, d = .str i ∧ e = .str j ∧ q (.bool (!decide (j.cps.toList < i.cps.toList)))
theorem opS_leS : OpS (fun x y H Q => ∃ i j, x = .str i ∧ y = .str j ∧ Q (.bl (!decide (j.cps.toList < i.cps.toList))) H) gLeS := fun Z H x y d e q Q nz hx hy ⟨i, j, e1, e2, hq⟩ k => by
  subst e1 e2
  exact ⟨i, j, sd_str hx, sd_str hy, k _ _ H (Same.refl _) (.bl _) hq⟩
/-! ### list(text) -/
def rListS : List V → Hp → VK → Prop := fun xs H Q => ∃ z : Str, xs = [.str z] ∧ z.length ≤ sizeLine ∧ ∀ p, H p = none → Q (.ref p) (upd H p (.lst (z.cps.toList.map fun c => .str ⟨#[c]⟩)))
theorem call_listS (hc : X.calm = true) : CallR X (.type "list") rListS := by
  intro pins s σ H xs us Q I r h
  obtain ⟨z, rfl, hz, q⟩ := h
  obtain ⟨u, rfl, t, rfl⟩ := vals1 r
  refine call_list_str (I.ok.hd hc) z t (fun h' tk acc c' hk e hi => ?_) hz
  refine ⟨.ref s.heap.objs.size, upd H s.heap.objs.size (.lst (z.cps.toList.map fun c => .str ⟨#[c]⟩)), I.laid hk (Nat.le_refl _) ⟨by rw [List.length_map, Array.length_toList]; exact hz, acc.toList, c', ?_, by rw [Array.toArray_toList]; exact e⟩, rfl, q _ (I.hok.fresh (Nat.le_refl _))⟩
  refine vals_of_idx _ _ (by rw [List.length_map, Array.length_toList, Array.length_toList]; exact hi.1) fun j u hj => ?_
  obtain ⟨c, t', hc', rfl⟩ := hi.2 j u (by rw [← Array.getElem?_toList]; exact hj)
  exact ⟨.str ⟨#[c]⟩, by rw [List.getElem?_map, Array.getElem?_toList, hc']; rfl, ⟨_, rfl⟩⟩
@[simp] def gListS : DGC := fun ds q => ∃ z, ds = [.str z] ∧ z.length ≤ sizeLine ∧ q (.list (signsD z))
theorem signs_sd (M : Hp) : ∀ l : List Nat, SdL M (l.map fun c => V.str ⟨#[c]⟩) (l.map fun c => PyData.str ⟨#[c]⟩)
  | [] => .nil
  | c :: l => .cons (.str _) (signs_sd M l)
theorem callS_listS : CallS rListS gListS := fun Z H xs ds q Q nz sds ⟨z, e, hz, hq⟩ k => by
  subst e
  obtain ⟨v, rfl, s⟩ := sd1 sds
  rw [sd_str s]
  exact ⟨z, rfl, hz, fun p hp => k _ _ _ (same_new hp _) (.lst (msk_at (nz p hp)) (signs_sd _ _)) hq⟩
/-! ### list * int -/
def gRepL : DG2 := fun d e q => ∃ xs k, d = .list xs ∧ e = .int k ∧ k ≤ 1000 ∧ -1000 ≤ k ∧ xs.length ≤ 1000 ∧ q (.list (List.replicate k.toNat xs).flatten)
@[simp] theorem gRepL_eq {xs : List PyData} {k : Int} {q : PyData → Prop} : gRepL (.list xs) (.int k) q = (k ≤ 1000 ∧ -1000 ≤ k ∧ xs.length ≤ 1000 ∧ q (.list (List.replicate k.toNat xs).flatten)) := by simp [gRepL]
theorem opS_repL : OpS rRep gRepL := fun Z H x y d e q Q nz hx hy ⟨xs, k, e1, e2, h1, h2, h3, hq⟩ kk => by
  subst e1 e2
  obtain ⟨a, vs, rfl, ha, sa⟩ := sd_lst hx
  have hm : vs.length * k.toNat ≤ sizeLine := by
    have h4 : vs.length ≤ 1000 := by rw [sa.len]; exact h3
    have h5 : k.toNat ≤ 1000 := by omega
    exact Nat.le_trans (Nat.mul_le_mul h4 h5) (by decide)
  exact ⟨a, k, vs, rfl, sd_int hy, (msk_some.mp ha).2, by omega, by omega, hm, fun p hp => kk _ _ _ (same_new hp _) (.lst (msk_at (nz p hp)) (SdL.same (msk_new hp) (sa.rep _))) hq⟩
/-! ### find, index, ljust -/
@[simp] def gFind : Str → List PyData → (PyData → Prop) → Prop := fun z ds q => ∃ b, ds = [.str b] ∧ q (.int (Txt.find z b))
theorem ms_find : MS (fun x xs H Q => ∃ a b, x = .str a ∧ xs = [.str b] ∧ Q (.int (Txt.find a b)) H) gFind := fun Z H xs z ds q Q _ sds ⟨b, e, hq⟩ k => by
  subst e
  obtain ⟨v, rfl, s⟩ := sd1 sds
  rw [sd_str s]
  exact ⟨z, b, rfl, rfl, k _ _ H (Same.refl _) (.int _) hq⟩
@[simp] def gIndex : Str → List PyData → (PyData → Prop) → Prop := fun z ds q => ∃ c, ds = [.str ⟨#[c]⟩] ∧ c ∈ z.cps.toList ∧ q (.int (Txt.find z ⟨#[c]⟩))
theorem ms_index : MS (fun x xs H Q => ∃ a b i rest, x = .str a ∧ xs = [.str b] ∧ Builtin.Str.occurrences a b 0 a.length 1 = i :: rest ∧ Q (.int (i : Nat)) H) gIndex := fun Z H xs z ds q Q _ sds ⟨c, e, hm, hq⟩ k => by
  subst e
  obtain ⟨v, rfl, s⟩ := sd1 sds
  rw [sd_str s]
  have h := StrLaws.found_one z c
  rw [decide_eq_true hm] at h
  cases ho : Builtin.Str.occurrences z ⟨#[c]⟩ 0 z.length 1 with
  | nil =>
    rw [ho] at h
    cases h
  | cons i rest =>
    refine ⟨z, ⟨#[c]⟩, i, rest, rfl, rfl, ho, k _ _ H (Same.refl _) (.int _) ?_⟩
    have e : Txt.find z ⟨#[c]⟩ = (i : Int) := by unfold Txt.find; rw [ho]
    rw [← e]
    exact hq
/-- where a sign of a text stands -/
theorem find_at {z : Str} {c : Nat} (hm : c ∈ z.cps.toList) : ∃ i : Nat, Txt.find z ⟨#[c]⟩ = (i : Int) ∧ i < z.length := by
  have h := StrLaws.found_one z c
  rw [decide_eq_true hm] at h
  cases ho : Builtin.Str.occurrences z ⟨#[c]⟩ 0 z.length 1 with
  | nil =>
    rw [ho] at h
    cases h
  | cons i rest =>
    have := (StrLaws.occ_spec z ⟨#[c]⟩ 0 z.length 1 i (by rw [ho]; exact List.mem_cons_self)).1
    refine ⟨i, by unfold Txt.find; rw [ho], ?_⟩
    have e : (⟨#[c]⟩ : Str).length = 1 := rfl
    omega
theorem mt_ljust2 : MtR X "str.ljust" (fun x xs H Q => ∃ (a : Str) (i : Int) (c : Nat), x = .str a ∧ xs = [.int i, .str ⟨#[c]⟩] ∧ PadOk i = true ∧ Q (.str (Txt.ljustF a i c)) H) := by
  intro pins s σ H x xs v us Q I rx rs h
  obtain ⟨a, i, c, rfl, rfl, hp, h⟩ := h
  obtain ⟨t, rfl⟩ := rx
  cases rs with
  | cons r1 rs =>
    cases rs with
    | cons r2 rs =>
      cases rs
      obtain ⟨u, rfl⟩ := r1
      obtain ⟨z, rfl⟩ := r2
      exact ljust_fill hp rfl fun t' k => ⟨.str (Txt.ljustF a i c), H, I.tok k, ⟨t', rfl⟩, h⟩
@[simp] def gLjust : Str → List PyData → (PyData → Prop) → Prop := fun z ds q => ∃ (i : Int) (c : Nat), ds = [.int i, .str ⟨#[c]⟩] ∧ 0 ≤ i ∧ i ≤ 100000 ∧ q (.str (Txt.ljustF z i c))
theorem ms_ljust : MS (fun x xs H Q => ∃ (a : Str) (i : Int) (c : Nat), x = .str a ∧ xs = [.int i, .str ⟨#[c]⟩] ∧ PadOk i = true ∧ Q (.str (Txt.ljustF a i c)) H) gLjust := fun Z H xs z ds q Q _ sds ⟨i, c, e, h0, h1, hq⟩ k => by
  subst e
  cases sds with
  | cons s1 t =>
    cases t with
    | cons s2 t =>
      cases t
      rw [sd_int s1, sd_str s2]
      refine ⟨z, i, c, rfl, rfl, ?_, k _ _ H (Same.refl _) (.str _) hq⟩
      have hs : (sizeLine : Nat) = 16777216 := rfl
      have f1 : (!(decide (i < -(2 ^ 63 : Int)) || decide (i ≥ 2 ^ 63))) = true := by
        simp only [Bool.not_eq_true', decide_eq_false_iff_not, Bool.or_eq_false_iff]
        omega
      have f2 : (!decide (i.toNat > sizeLine)) = true := by
        simp only [Bool.not_eq_true', decide_eq_false_iff_not]
        omega
      show (_ && _) = true
      rw [Bool.and_eq_true]
      exact ⟨f1, f2⟩
end
end Zk

set_option maxHeartbeats 1000000
/-! V35: x.append(y.pop(i)); a new list of its own out of list(text); three arguments by keyword, the other way round. -/
namespace Zk
open PySem PySem.Spec PyProof.Rows L2 GxR TL SX
section
variable {X : Cx} {Ta : List Addr} {nm : Str} {e : Expr} {es : List Expr} {r : DR}
/-! ### x.append(y.pop(e)) -/
@[simp] def rAppPop (i j : Nat) (r : DR) : DRS := fun K E => ∃ xs ys, i ≠ j ∧ E[i]? = some (.lst xs) ∧ E[j]? = some (.lst ys) ∧ r E fun d => ∃ (k : Nat) (y : PyData), d = .int k ∧ k < 2 ^ 62 ∧ ys[k]? = some y ∧ xs.length < sizeLine ∧ K.nx ((E.set j (.lst (ys.eraseIdx k))).set i (.lst (xs ++ [y])))
theorem SdL.erase {M : Hp} : ∀ {vs : List V} {ds : List PyData}, SdL M vs ds → ∀ k : Nat, SdL M (vs.eraseIdx k) (ds.eraseIdx k)
  | _, _, .nil, _ => .nil
  | _, _, .cons _ t, 0 => t
  | _, _, .cons h t, k + 1 => .cons h (SdL.erase t k)
theorem SdL.at2 {M : Hp} : ∀ {vs : List V} {ds : List PyData}, SdL M vs ds → ∀ {k : Nat} {u : V} {y : PyData}, vs[k]? = some u → ds[k]? = some y → Sd M u y
  | _, _, .nil, _, _, _, h, _ => by simp at h
  | _, _, .cons a t, 0, _, _, h, k => by
    cases h
    cases k
    exact a
  | _, _, .cons a t, n + 1, _, _, h, k => SdL.at2 t (k := n) (by simpa using h) (by simpa using k)
theorem ds_appPop {st : Stmt} {i j : Nat} (h : PS X st (tDrop (tBM X.K "list" rAppend (tVar i) (tCons (tBM X.K "list" rPopAt (tVar j) (tCons (tD Ta nm r) tNil)) tNil)))) : PS X st (tDS Ta nm (rAppPop i j r)) := PS.weak h fun D σ H ⟨C, E, K, s, re, ⟨xs, ys, ij, hx, hy, h⟩⟩ => by
  obtain ⟨a, vs, ho, ha, sd, n0, n1⟩ := own_at s hx
  obtain ⟨b, ws, hb, hb', sb, m0, m1⟩ := own_at s hy
  refine ⟨_, ho, .inl ⟨rfl, _, SqL.of ha⟩, _, hb, .inl ⟨rfl, _, SqL.of hb'⟩, C, E, _, s, h, fun d v H1 g1 k1 sd1 ⟨k, y, ed, hk, hy', hl, hq⟩ => ?_⟩
  subst ed
  rw [sd_int sd1]
  have s1 := s.step g1 k1
  obtain ⟨a2, vs2, ho2, ha2, sd2, _, _⟩ := own_at s1 hx
  obtain ⟨b2, ws2, hb2, hb2', sb2, _, _⟩ := own_at s1 hy
  rw [ho] at ho2
  cases ho2
  rw [hb] at hb2
  cases hb2
  have ne : a ≠ b := fun z => s1.dist i j _ _ a ij hx rfl hy rfl ho (by rw [z]; exact hb)
  have kl : k < ys.length := (List.getElem?_eq_some_iff.mp hy').1
  have kw : k < ws2.length := by rw [sb2.len]; exact kl
  obtain ⟨u, hu, su⟩ : ∃ u, ws2[k]? = some u ∧ Sd (msk (Zof C σ E) H1) u y := by
    obtain ⟨u, hu⟩ : ∃ u, ws2[k]? = some u := ⟨_, List.getElem?_eq_getElem kw⟩
    exact ⟨u, hu, sb2.at2 hu hy'⟩
  refine ⟨b, ws2, (k : Int), k, u, rfl, rfl, hb2', by omega, by omega, ?_, hu, ?_⟩
  · unfold seqIndex?
    simp
    omega
  have zb : Zof C σ E b := .inr (.inr ⟨j, _, hy, rfl, hb⟩)
  have s2 := s1.write (e' := .lst (ys.eraseIdx k)) (o := .lst (ws2.eraseIdx k)) hy rfl rfl hb m0 (fun ps z => by rw [hb2'] at z; cases z) ⟨b, _, rfl, upd_same, sb2.erase k, m0, m1⟩
  have sm : Sm (msk (Zof C σ E) H1) (msk (Zof C σ (E.set j (.lst (ys.eraseIdx k)))) (upd H1 b (.lst (ws2.eraseIdx k)))) := fun c o e _ => by
    obtain ⟨z1, z2⟩ := msk_some.mp e
    refine msk_some.mpr ⟨fun y => z1 ?_, (upd_ne (fun y : c = b => z1 (by rw [y]; exact zb))).trans z2⟩
    rcases y with y | y | ⟨l, o', h1, h2, h3⟩
    · exact .inl y
    · exact .inr (.inl y)
    · rcases get_set h1 with ⟨rfl, rfl⟩ | ⟨ne, h1⟩
      · exact .inr (.inr ⟨j, _, hy, rfl, h3⟩)
      · exact .inr (.inr ⟨l, o', h1, h2, h3⟩)
  have hx2 : (E.set j (.lst (ys.eraseIdx k)))[i]? = some (.lst xs) := by rw [List.getElem?_set_ne (fun z => ij z.symm)]; exact hx
  obtain ⟨a3, vs3, ho3, ha3, sd3, _, _⟩ := own_at s2 hx2
  rw [ho] at ho3
  cases ho3
  refine ⟨a, vs3, u, rfl, rfl, ha3, by rw [sd3.len]; exact hl, ?_⟩
  exact re.nx _ _ _ (s2.write (e' := .lst (xs ++ [y])) hx2 rfl rfl ho n0 (fun ps z => by rw [ha3] at z; cases z) ⟨a, _, rfl, upd_same, sd3.app (.cons (su.sm sm) .nil), n0, n1⟩) hq
/-! ### a, b = .., list(text) -/
@[simp] def rpLS (r : DR) (rs : DRP) : DRP := fun E q => r E fun d => ∃ z : Str, d = .str z ∧ z.length ≤ sizeLine ∧ rs E fun ws => q (.lst (signsD z) :: ws)
theorem dp_ls {rs : DRP} {p pos : Pos} (hc : X.calm = true) (hg : Gl X "list") (hm : X.mg "list" = none) (h : PE X e (tD Ta nm r)) (h' : PA X es (tPA Ta nm rs)) (he : starEach [e] X.env = (false, eval e X.env) :: starEach [] X.env := by rfl)
    (hs : starEach (.Call (.Name "list" p) [e] [] pos :: es) X.env = (false, eval (.Call (.Name "list" p) [e] [] pos) X.env) :: starEach es X.env := by rfl) : PA X (.Call (.Name "list" p) [e] [] pos :: es) (tPA Ta nm (rpLS r rs)) :=
  PA.weak (pa_cons (pe_callTy (call_listS hc) hg hm (by decide +kernel) (pa_cons h pa_nil (hs := he)) (by decide +kernel) (by decide +kernel) he) h' hs) fun σ H Q ⟨C, E, q, s, hr, k⟩ =>
  ⟨C, E, _, s, hr, fun d v H1 g1 k1 sd ⟨z, e, hl, hq⟩ => by
    subst e
    rw [sd_str sd]
    refine ⟨z, rfl, hl, fun a ha => ?_⟩
    have s1 := s.step g1 k1
    exact ⟨lcC C (upd H1 a (.lst (z.cps.toList.map fun c => V.str ⟨#[c]⟩))) σ E a, E, _, lc_in s1 (Same.go (same_new ha _)) (k1.same (same_new ha _)) ha upd_same, hq, fun ws vs H2 hl s2 hq => k (.lst (signsD z) :: ws) (.ref a :: vs) H2 (by simp [hl]) (lc_ins s1 ha (signs_sd _ _) s2) hq⟩⟩
end
/-! ### three arguments by keyword, the other way round -/
def kg3r : List Value → List Value → List Value | [], [c, b, a] => [a, b, c] | _, _ => []
def kv3r : List V → List V → List V | [], [c, b, a] => [a, b, c] | _, _ => []
def kd3r : List PyData → List PyData | [c, b, a] => [a, b, c] | _ => []
theorem kr3r {vs : List V} {us : List Value} {zs : List V} {ws : List Value} (h : Vals vs us) (k : Vals zs ws) : Vals (kv3r vs zs) (kg3r us ws) := by
  cases h with
  | nil =>
    cases k with
    | nil => exact .nil
    | cons a t =>
      cases t with
      | nil => exact .nil
      | cons b t =>
        cases t with
        | nil => exact .nil
        | cons c t =>
          cases t with
          | nil => exact .cons c (.cons b (.cons a .nil))
          | cons _ _ => exact .nil
  | cons a t =>
    show Vals [] _
    have : ∀ (x : Value) (l ws : List Value), kg3r (x :: l) ws = [] := fun x l ws => by unfold kg3r; rfl
    rw [this]
    exact .nil
theorem kdata3r : KData kv3r kd3r := fun M vs ds h => by
  cases h with
  | nil => exact .nil
  | cons a t =>
    cases t with
    | nil => exact .nil
    | cons b t =>
      cases t with
      | nil => exact .nil
      | cons c t =>
        cases t with
        | nil => exact .cons c (.cons b (.cons a .nil))
        | cons _ _ => exact .nil
end Zk

set_option maxHeartbeats 1000000
/-! V36: chains as tests; == () as a value. -/
namespace Zk
open PySem PySem.Spec PyProof.Rows L2 GxR TL SX
section
variable {X : Cx} {Ta : List Addr} {nm : Str} {a b c : Expr} {ra rb rc : DR} {pos p : Pos} {rq : DRQ}
theorem chain_run {r r' : R2} {g g' : DG2} (s1 : OpS r g) (s2 : OpS r' g') : ∀ σ H Q, tD Ta nm (rChain g g' ra rb rc) σ H Q → tChain r r' (tD Ta nm ra) (tD Ta nm rb) (tD Ta nm rc) σ H Q := fun σ H Q ⟨C, E, q, st, hr, k⟩ =>
  ⟨C, E, _, st, hr, fun x v H1 g1 k1 sd hx => ⟨C, E, _, st.step g1 k1, hx, fun y u H2 g2 k2 sd2 hy =>
    s1 (Zof C σ E) H2 v u x y _ _ (fun p hp => ((st.step g1 k1).step g2 k2).new hp) (sd.sm (Go.zof g2)) sd2 hy fun z v' H3 s3 sz ⟨kk, e, hq⟩ => by
      subst e
      have st3 := ((st.step g1 k1).step g2 k2).step (Same.go s3) (k2.same s3)
      refine ⟨kk, sd_bool sz, ?_⟩
      cases kk with
      | true => exact ⟨C, E, _, st3, hq, fun w vw H4 g4 k4 sw hw => s2 (Zof C σ E) H4 u vw y w q Q (fun p hp => (st3.step g4 k4).new hp) ((sd2.same (msk_same s3)).sm (Go.zof g4)) sw hw
          fun d' v' H5 s5 sd5 hq => k d' v' H5 ((((g1.trans g2).trans (Same.go s3)).trans g4).trans (Same.go s5)) (k4.same s5) sd5 hq⟩
      | false => exact k _ _ H3 ((g1.trans g2).trans (Same.go s3)) (k2.same s3) (.bl false) hq⟩⟩
theorem dt_chain {op op' : CmpOp} {r r' : R2} {g g' : DG2} (ho : OpR X (compareOp op) r) (ho' : OpR X (compareOp op') r') (s1 : OpS r g) (s2 : OpS r' g') (ha : PE X a (tD Ta nm ra)) (hb : PE X b (tD Ta nm rb)) (hc : PE X c (tD Ta nm rc))
    (hm : lastMarks [op, op'] [b, c] = false := by with_unfolding_all rfl) : L2.PT X (.Compare a [op, op'] [b, c] pos) (tDT Ta nm (rTest (rChain g g' ra rb rc))) := PTx.weak (pt_chain ho ho' ha hb hc hm) (test_of (chain_run s1 s2))
theorem dx_eqT {x1} (hu : X.A.units < cLine) (h : PE X a (tDQ Ta nm rq)) : PE X (.Compare a [.Eq] [.Tuple [] x1 p] pos) (tD Ta nm (rNilT false rq)) := PE.weak (pe_cmpR (opr_as (op_eqT0 hu) k_idT) h (pe_tup pa_nil) (nomark _)) (nilT_run false)
theorem dx_neT {x1} (hu : X.A.units < cLine) (h : PE X a (tDQ Ta nm rq)) : PE X (.Compare a [.NotEq] [.Tuple [] x1 p] pos) (tD Ta nm (rNilT true rq)) := PE.weak (pe_cmpR (opr_as (op_neT0 hu) k_notT) h (pe_tup pa_nil) (nomark _)) (nilT_run true)
end
end Zk

set_option maxHeartbeats 1000000
/-! V37: [e for t in xs], whatever the target; the length of a tuple of some size. -/
namespace Zk
open PySem PySem.Spec PyProof.Rows L2 GxR TL SX
theorem tupLen {xs : List PyData} (h : sz (.tuple xs) ≤ sizeLine) : xs.length ≤ sizeLine := by
  have := szAll_len xs
  simp only [sz] at h
  omega
theorem strLen_sz {z : Str} (h : sz (.str z) ≤ sizeLine) : z.length ≤ sizeLine := by
  simp only [sz] at h
  omega
/-- z[:j], z[j:] -/
theorem cutTo (z : Str) (j : Nat) : (cutS z none (some (j : Int))).cps.toList = z.cps.toList.take j := by
  have e := str_len z
  unfold cutS
  rw [HT.sIx_none, HT.sIx_nat]
  show List.take (min j z.length - 0) (List.drop 0 z.cps.toList) = _
  rw [List.drop_zero, Nat.sub_zero]
  by_cases h : j ≤ z.length
  · rw [Nat.min_eq_left h]
  · rw [Nat.min_eq_right (by omega), e, List.take_length, List.take_of_length_le (by omega)]
theorem cutFrom (z : Str) (j : Nat) : (cutS z (some (j : Int)) none).cps.toList = z.cps.toList.drop j := by
  have e := str_len z
  unfold cutS
  rw [HT.sIx_none, HT.sIx_nat]
  show List.take (z.length - min j z.length) (List.drop (min j z.length) z.cps.toList) = _
  by_cases h : j ≤ z.length
  · rw [Nat.min_eq_left h, show z.length - j = (z.cps.toList.drop j).length by rw [e, List.length_drop], List.take_length]
  · rw [Nat.min_eq_right (by omega), Nat.sub_self, List.drop_eq_nil_of_le (as := z.cps.toList) (i := j) (by omega)]
    rfl
section
variable {vs : List Nat} {ri : DRI} {rg : DRG} {re : DR} {E : DEnv} {q : PyData → Prop}
theorem rLc_mapG {g : PyData → PyData} (xs : List PyData) (no : NoOwn E vs) (hl : xs.length ≤ sizeLine) (hri : ∀ q' : List PyData → Prop, q' xs → ri E q') (hre : ∀ d ∈ xs, ∀ q'' : PyData → Prop, q'' (g d) → rg d (wipeE E vs) fun E2 => re E2 q'')
    (hq : q (.list (xs.map g))) : rLc vs ri rg rtYes re E q := by
  refine ⟨no, hri _ ⟨fun k acc => acc = (xs.take k).map g, rfl, fun k d acc hd hI => ?_, fun acc h => ?_⟩⟩
  · have hm := List.mem_of_getElem? hd
    have e : (fun E2 => rtYes E2 fun b => if b = true then re E2 fun y => acc.length < sizeLine ∧ acc ++ [y] = (xs.take (k + 1)).map g else acc = (xs.take (k + 1)).map g) = fun E2 => re E2 fun y => acc.length < sizeLine ∧ acc ++ [y] = (xs.take (k + 1)).map g := funext fun E2 => by simp only [rtYes, if_true]
    rw [e]
    refine hre d hm _ ⟨?_, ?_⟩
    · have h2 := (List.getElem?_eq_some_iff.mp hd).1
      rw [hI, List.length_map, List.length_take]
      omega
    · rw [List.take_succ, hd, List.map_append, hI]
      simp
  · dsimp only at h
    rw [List.take_length] at h
    rw [h]
    exact hq
end
end Zk

set_option maxHeartbeats 1000000
/-! V38: sorted(text); texts of the module. -/
namespace SrtO
open PySem PyProof.Rows Srt
section
variable {prog : Program} {w : World} {A : Around} {E : Value → Shared → Prop} {s : Shared}
theorem items_strs {z : PySem.Str} {acc : Array Value} (h : ItemsOf (SignAt z) acc z.cps.size) : StrsAre acc.toList (z.cps.toList.map fun c => (⟨#[c]⟩ : PySem.Str)) := by
  have hv : L2.Vals ((z.cps.toList.map fun c => (⟨#[c]⟩ : PySem.Str)).map L2.V.str) acc.toList := by
    refine L2.vals_of_idx _ _ (by rw [List.length_map, List.length_map, Array.length_toList, Array.length_toList]; exact h.1) fun j u hj => ?_
    obtain ⟨c, t', hc', rfl⟩ := h.2 j u (by rw [← Array.getElem?_toList]; exact hj)
    exact ⟨.str ⟨#[c]⟩, by rw [List.getElem?_map, List.getElem?_map, Array.getElem?_toList, hc']; rfl, ⟨_, rfl⟩⟩
  exact hv.strs
theorem sorted_str {z : PySem.Str} {t : Tok} {Q : Value → Shared → Prop} (hh : A.handled = none) (hz : z.cps.size ≤ sizeLine)
    (h : ∀ (h' : Heap) (tk : Nat) (a' : Addr) (c : Nat) (vs out : List Value), (∀ b o, s.heap.get? b = some o → h'.get? b = some o) → (∃ h1 : Heap, (∀ b o, s.heap.get? b = some o → h1.get? b = some o) ∧ a' = h1.objs.size) → h'.get? a' = some (seqObj "list" out.toArray c) → StrsAre vs (z.cps.toList.map fun c => (⟨#[c]⟩ : PySem.Str)) →
      Srtd ltSv out → Stb ltSv out vs → Q (.ref a') { s with heap := h', toks := tk }) :
    wpAny (model prog w) A (call (.builtin "sorted") [.str z t]) Q E s := by
  refine Calls.call_function_entry kind_sorted plain_sorted entry_sorted (args_sorted1 _) ?_
  unfold Builtin.«sorted»
  refine wpAny_bind (m := checkCount "sorted" 1 1 _) (wpAny_pure ?_)
  refine wpAny_bind (wpAny_collect_str ?_ z t (fun s' acc keep hg hd ho hi => ?_) hz)
  · exact hh
  · have hs' : s' = { s with heap := s'.heap, toks := s'.toks } := by
      cases s
      cases s'
      simp at hg hd ho
      subst hg hd ho
      rfl
    have hS := items_strs hi
    have hl : acc.toList.length ≤ sizeLine := by rw [Array.length_toList, hi.1]; exact hz
    refine wpAny_bind (wpAny_newList ?_ hl)
    have hoL : (s'.heap.push (seqObj "list" acc.toList.toArray 0)).get? s'.heap.objs.size = some (seqObj "list" acc.toList.toArray 0) := Heap.get?_push_size _ rfl
    refine wpAny_bind (wpAny_holding (wpAny_call_entry slot_list_sort ⟨_, hoL, rfl⟩ entry_list_sort (list_sort_ord swo_str hoL hl (fun h2 => strs_sortable hS h2) fun out hs hb => ⟨_, rfl, ?_⟩) (args_list_sort _)))
    refine wpAny_pure ⟨_, rfl, ?_⟩
    obtain ⟨c, hc⟩ := sortedHeap_at (out := out.toArray) hoL
    have fin := h (sortedHeap (s'.heap.push (seqObj "list" acc.toList.toArray 0)) s'.heap.objs.size acc.toList out.toArray) s'.toks s'.heap.objs.size c acc.toList out
      (fun b o e => by
        have k := keep b o e
        have lt := Heap.lt_size k
        rw [sortedHeap_old (Nat.ne_of_lt lt) (by rw [size_push']; exact Nat.lt_succ_of_lt lt)]
        exact Heap.get?_push_of_some _ k) ⟨s'.heap, keep, rfl⟩ hc hS hs hb
    rw [hg, hd, ho]
    exact fin
end
end SrtO
namespace Zk
open PySem PySem.Spec PyProof.Rows L2 GxR TL SX
section
variable {X : Cx}
def rSortedT : List V → Hp → VK → Prop := fun vs H Q => ∃ z : Str, vs = [V.str z] ∧ z.length ≤ sizeLine ∧
  ∀ (ys : List Str) (p : Addr), ys.Perm (z.cps.toList.map one) → PyProof.Rows.sortedS ys = true → H p = none → Q (.ref p) (upd H p (.lst (ys.map V.str)))
theorem cr_sortedT (hc : X.calm = true) : CallR X (.builtin "sorted") rSortedT := by
  intro pins s σ H vs us Q I r h
  obtain ⟨z, rfl, hz, q⟩ := h
  obtain ⟨u, rfl, t, rfl⟩ := vals1 r
  refine SrtO.sorted_str (I.ok.hd hc) hz fun h' tk a' c vs' out keep ⟨h1', k1', ea⟩ hl hS h1 h2 => ?_
  obtain ⟨k1, k2, k3⟩ := SrtO.strs_out hS h1 h2
  have hlen : ((out.map strOf).map V.str).length ≤ sizeLine := by
    rw [List.length_map, k2.length_eq, List.length_map, ← str_len]
    exact hz
  have hn : H a' = none := (I.hok.kept k1').fresh (by rw [ea]; exact Nat.le_refl _)
  have hp : s.heap.get? a' = none := by
    cases e : s.heap.get? a' with
    | none => rfl
    | some o =>
      have := Heap.lt_size (k1' _ _ e)
      rw [ea] at this
      exact absurd this (Nat.lt_irrefl _)
  exact ⟨.ref a', upd H a' (.lst ((out.map strOf).map V.str)), I.laidN keep hp hn ⟨hlen, out, c, vals_of_strs k1, hl⟩, rfl, q _ _ k2 k3 hn⟩
def gSortT : DGC := fun ds q => ∃ z : Str, ds = [.str z] ∧ z.length ≤ sizeLine ∧ ∀ ys : List Str, ys.Perm (z.cps.toList.map one) → sortedS ys = true → q (.list (ys.map PyData.str))
theorem callS_sortT : CallS rSortedT gSortT := fun Z H xs ds q Q nz sds ⟨z, e, hz, hq⟩ k => by
  subst e
  obtain ⟨v, rfl, s⟩ := sd1 sds
  rw [sd_str s]
  exact ⟨z, rfl, hz, fun ys p h1 h2 hp => k _ _ _ (same_new hp _) (.lst (msk_at (nz p hp)) (strs_sd ys)) (hq ys h1 h2)⟩
/-! ### a text of the module -/
variable {Ta : List Addr} {nm : Str} {x : Str} {pos : Pos}
theorem dx_glob {z : Str} {t : Tok} (hg : Gl X x) (hm : X.mg x = some (.str z t)) (hd : (x == ("__debug__" : Str)) = false := by decide) : PE X (.Name x pos) (tD Ta nm (rC (.str z))) :=
  PE.weak (pe_glob hg hm (v := .str z) ⟨t, rfl⟩ hd) fun σ H Q ⟨C, E, q, s, hr, k⟩ => k _ _ H Go.refl s.ok (.str _) hr
end
end Zk

set_option maxHeartbeats 1000000
/-! V39: text * int, also nothing of it; rows of texts compared. -/
namespace Zk
open PySem PySem.Spec PyProof.Rows L2 GxR TL SX
section
variable {X : Cx}
def rRep0 : R2 := fun x y H Q => ∃ z : Str, x = .str z ∧ y = .int 0 ∧ Q (.str (repS z 0)) H
theorem op_rep0 : OpR X (binaryOp .Mult) rRep0 := by
  intro pins s σ H x y v u Q I rx ry h
  obtain ⟨z, rfl, rfl, q⟩ := h
  obtain ⟨t, rfl⟩ := rx
  obtain ⟨t', rfl⟩ := ry
  refine PySem.P.mul_str (by decide) (fun h _ => absurd (by decide) h) (fun h _ => absurd (by decide) h) ?_
  rw [if_pos (by decide)]
  refine ⟨by decide, .str (repS z 0), H, I.tok _, ⟨s.toks, ?_⟩, q⟩
  have e : repS z 0 = Str.empty := str_ext (by rw [repS_cps]; rfl)
  rw [e]
def rRepN : R2 := fun x y H Q => rRepS x y H Q ∨ rRep0 x y H Q
theorem op_repN : OpR X (binaryOp .Mult) rRepN := op_or op_repS op_rep0
@[simp] def gRepN : DG2 := fun d e q => ∃ (z : Str) (k : Nat), d = .str z ∧ e = .int k ∧ k ≤ 1000 ∧ 1 ≤ z.length ∧ z.length ≤ 1000 ∧ q (.str (repS z k))
theorem opS_repN : OpS rRepN gRepN := fun Z H x y d e q Q nz hx hy ⟨z, k, e1, e2, h2, h3, h4, hq⟩ kk => by
  subst e1 e2
  by_cases h : k = 0
  · subst h
    exact .inr ⟨z, sd_str hx, sd_int hy, kk _ _ H (Same.refl _) (.str _) hq⟩
  · exact .inl ⟨z, k, sd_str hx, sd_int hy, by omega, h2, h3, h4, kk _ _ H (Same.refl _) (.str _) hq⟩
theorem repS_one (c k : Nat) : (repS ⟨#[c]⟩ k).cps.toList = List.replicate k c := by
  rw [repS_cps]
  induction k with
  | zero => rfl
  | succ k ih => rw [List.replicate_succ, List.replicate_succ, List.flatten_cons, ih]; rfl
end
theorem eqv_strs : ∀ xs ys : List Str, PyData.eqvAll (xs.map PyData.str) (ys.map PyData.str) = decide (xs = ys)
  | [], [] => by simp [PyData.eqvAll]
  | [], _ :: _ => by simp [PyData.eqvAll]
  | _ :: _, [] => by simp [PyData.eqvAll]
  | x :: xs, y :: ys => by
    rw [List.map_cons, List.map_cons, PyData.eqvAll, eqv_strs xs ys]
    by_cases h : x = y
    · by_cases h2 : xs = ys
      · simp [h, h2]
      · simp [h, h2]
    · simp [h]
theorem shaped_strs {cs : List Nat} (h : ∀ c ∈ cs, c < 128) : SeqAt.shaped (.list ((cs.map one).map PyData.str)) = true := by
  have a : ∀ l : List Nat, (∀ c ∈ l, c < 128) → PyData.canLayAll0 ((l.map one).map PyData.str) = true ∧ PyData.depthAll ((l.map one).map PyData.str) = 0 := fun l hl => by
    induction l with
    | nil => exact ⟨by simp [PyData.canLayAll0], by simp [PyData.depthAll]⟩
    | cons c l ih =>
      obtain ⟨i1, i2⟩ := ih fun d hd => hl d (List.mem_cons_of_mem _ hd)
      have hc := hl c List.mem_cons_self
      have so : PyData.strOk (one c) = true := by
        unfold PyData.strOk
        rw [← Array.all_toList]
        exact List.all_eq_true.mpr fun x hx => decide_eq_true (by
          have : x = c := by simpa [one] using hx
          omega)
      exact ⟨by simp [PyData.canLayAll0, PyData.canLay0, so, i1, -List.map_map], by simp [PyData.depthAll, PyData.depth, i2, -List.map_map]⟩
  obtain ⟨i1, i2⟩ := a cs h
  simp [SeqAt.shaped, PyData.canLay0, PyData.depth, i1, i2, -List.map_map]
/-- sorted rows of the same signs are the same -/
theorem pw_uniq : ∀ {a b : List Nat}, a.Perm b → a.Pairwise (· ≤ ·) → b.Pairwise (· ≤ ·) → a = b
  | [], b, p, _, _ => (List.Perm.nil_eq p)
  | x :: a, [], p, _, _ => absurd p.length_eq (by simp)
  | x :: a, y :: b, p, ha, hb => by
    have h1 := List.pairwise_cons.mp ha
    have h2 := List.pairwise_cons.mp hb
    have e : x = y := by
      have m1 : y ∈ x :: a := p.mem_iff.mpr List.mem_cons_self
      have m2 : x ∈ y :: b := p.mem_iff.mp List.mem_cons_self
      rcases List.mem_cons.mp m1 with e | m1
      · exact e.symm
      · rcases List.mem_cons.mp m2 with e | m2
        · exact e
        · have := h1.1 y m1
          have := h2.1 x m2
          omega
    subst e
    rw [pw_uniq (List.perm_cons x |>.mp p) h1.2 h2.2]
/-- one sign among others -/
theorem one_among {a b : Nat} (hab : a ≠ b) : ∀ {l : List Nat} {k : Nat}, l.Perm (a :: List.replicate k b) → ∃ i, i ≤ k ∧ l = List.replicate i b ++ a :: List.replicate (k - i) b
  | [], k, p => absurd p.length_eq (by simp)
  | x :: l, k, p => by
    by_cases e : x = a
    · subst e
      refine ⟨0, by omega, ?_⟩
      have q := List.perm_cons x |>.mp p
      rw [List.perm_replicate.mp q]
      simp
    · have hx : x = b := by
        have m : x ∈ a :: List.replicate k b := p.mem_iff.mp List.mem_cons_self
        rcases List.mem_cons.mp m with h | h
        · exact absurd h e
        · exact (List.mem_replicate.mp h).2
      subst hx
      cases k with
      | zero =>
        have := p.length_eq
        simp at this
        subst this
        have := p.mem_iff (a := a)
        simp at this
        exact absurd this hab
      | succ k =>
        have q : (x :: l).Perm (x :: a :: List.replicate k x) := p.trans (by rw [List.replicate_succ]; exact List.Perm.swap _ _ _)
        obtain ⟨i, hi, e2⟩ := one_among hab (List.perm_cons x |>.mp q)
        exact ⟨i + 1, by omega, by rw [e2, List.replicate_succ, List.cons_append, show k + 1 - (i + 1) = k - i by omega]⟩
end Zk

set_option maxHeartbeats 1000000
/-! V40: text[::-1]. -/
namespace Zk
open PySem PySem.Spec PyProof.Rows L2 GxR TL SX
section
variable {X : Cx} {Ta : List Addr} {nm : Str} {r : DR}
def revS (z : Str) : Str := Txt.sliceBy z none none (-1, 0)
theorem sliceBy_tok (z : Str) (u : Tok) : Txt.sliceBy z none none (-1, u) = revS z := rfl
theorem revS_len (z : Str) : (revS z).length = z.length := PyProof.Rows.step_rev_len z 0
theorem revS_mem {z : Str} {c : Nat} (h : c ∈ (revS z).cps.toList) : c ∈ z.cps.toList := by
  unfold revS at h
  rw [PyProof.Rows.step_rev_list] at h
  obtain ⟨k, hk, rfl⟩ := List.mem_map.mp h
  have hk' : k < z.length := List.mem_range.mp hk
  have h1 : z.length - 1 - k < z.cps.size := by
    have : z.length = z.cps.size := rfl
    omega
  rw [Array.getD, dif_pos h1]
  exact Array.getElem_mem_toList h1
def tRevS (te : TE) : TE := fun σ H Q => te σ H fun x H1 => ∃ z : Str, x = .str z ∧ z.length ≤ sizeLine ∧ Q (.str (revS z)) H1
theorem pe_revS {e : Expr} {te : TE} {k : Nat} {p1 p2 p3 pos : Pos} (he : PE X e te) : PE X (.Subscript e (.Slice none none (some (.UnaryOp .USub (.Constant (.int 1) k p1) p2)) p3) pos) (tRevS te) := by
  refine ⟨fun pins s σ H Q I h => ?_⟩
  refine Subscript_ (thn (he.run pins s σ H _ I h) fun v s1 ⟨x, H1, I1, r1, q1⟩ => ?_)
  obtain ⟨z, ex, hz, q⟩ := q1
  subst ex
  obtain ⟨t, rfl⟩ := r1
  have hst : PO X (some (.UnaryOp .USub (.Constant (.int 1) k p1) p2)) (tPart (tUn (rU fun i => .int (-i)) (tC (.int 1)))) := po_some (pe_un un_neg pe_int)
  refine wpAny_Slice (thn (po_none.run pins s1 σ H1 (fun o H2 => o = none ∧ H2 = H1) I1 ⟨rfl, rfl⟩) fun vl s2 ⟨l, H2, I2, pl, el, e2⟩ => ?_)
  subst el e2
  refine thn (po_none.run pins s2 σ H2 (fun o H3 => o = none ∧ H3 = H2) I2 ⟨rfl, rfl⟩) fun vu s3 ⟨u, H3, I3, pu, eu, e3⟩ => ?_
  subst eu e3
  refine thn (hst.run pins s3 σ H3 (fun o H4 => o = some (-1) ∧ H4 = H3) I3 ⟨1, rfl, -1, rfl, rfl, rfl⟩) fun vs s4 ⟨o, H4, I4, ps, eo, e4⟩ => ?_
  subst eo e4
  have I5 : Inv X pins σ H4 { s4 with heap := s4.heap.push { cls := .type "slice", data := .fields #[vl, vu, vs] } } := I4.kept (t' := s4.toks) fun b ob q => Heap.get?_push_of_some _ q
  cases pl
  cases pu
  cases ps with
  | int _ tk =>
    show wpAny (model X.prog X.w) X.A (subscriptTail e (.Slice none none (some (.UnaryOp .USub (.Constant (.int 1) k p1) p2)) p3) (.str z t) (.ref s4.heap.objs.size)) (EP X pins σ Q) X.xe { s4 with heap := s4.heap.push { cls := .type "slice", data := .fields #[.none, .none, .int (-1) tk] } }
    refine tail_of_ItemOn ⟨"str", _, PySem.F.slot_str_getitem.lookup, typeIs_str _ _ _, wpAny_getItem_str_slice (l := none) (u := none) (st := some (-1, tk)) ⟨_, Heap.get?_push_size _ rfl, rfl, rfl⟩ rfl
      (post_val_or_str ⟨Nat.le_trans (Txt.sliceBy_le z _ _ (-1, tk) (show (-1 : Int) ≠ 0 by decide)) hz, fun t' c => ?_⟩)⟩ (by with_unfolding_all rfl) (by intro _; cases e <;> rfl)
    exact ⟨.str (revS z), H4, I5.tok _, ⟨t', rfl⟩, q⟩
@[simp] def rRevS (r : DR) : DR := fun E q => r E fun d => ∃ z : Str, d = .str z ∧ z.length ≤ sizeLine ∧ q (.str (revS z))
theorem dx_revS {e : Expr} {k : Nat} {p1 p2 p3 pos : Pos} (h : PE X e (tD Ta nm r)) : PE X (.Subscript e (.Slice none none (some (.UnaryOp .USub (.Constant (.int 1) k p1) p2)) p3) pos) (tD Ta nm (rRevS r)) := PE.weak (pe_revS h) fun σ H Q ⟨C, E, q, s, hr, k⟩ => ⟨C, E, _, s, hr, fun d v H1 g1 k1 sd ⟨z, ed, hz, hq⟩ => by
  subst ed
  rw [sd_str sd]
  exact ⟨z, rfl, hz, k _ _ H1 g1 k1 (.str _) hq⟩⟩
end
end Zk

set_option maxHeartbeats 1000000
/-! V41: is None, is not None. -/
namespace Zk
open PySem PySem.Spec PyProof.Rows L2 GxR TL SX
def isNonD : PyData → Bool
  | .none => true
  | _ => false
@[simp] theorem isNonD_none : isNonD .none = true := rfl
@[simp] theorem isNonD_tuple (xs : List PyData) : isNonD (.tuple xs) = false := rfl
@[simp] theorem isNonD_str (z : Str) : isNonD (.str z) = false := rfl
@[simp] theorem isNonD_int (i : Int) : isNonD (.int i) = false := rfl
@[simp] theorem isNonD_list (xs : List PyData) : isNonD (.list xs) = false := rfl
@[simp] theorem isNonD_bool (b : Bool) : isNonD (.bool b) = false := rfl
@[simp] def gIsN (n : Bool) : DG2 := fun d e q => e = .none ∧ q (.bool (n != isNonD d))
theorem sd_non_iff {M : Hp} {v : V} {d : PyData} (h : Sd M v d) : decide (v = .non) = isNonD d := by
  cases h <;> simp [isNonD]
theorem opS_is : OpS (fun x y H Q => y = .non ∧ Q (.bl (decide (x = .non))) H) (gIsN false) := fun Z H x y d e q Q nz hx hy ⟨he, hq⟩ k => by
  subst he
  cases hy
  exact ⟨rfl, k _ _ H (Same.refl _) (.bl _) (by rw [sd_non_iff hx]; simpa using hq)⟩
theorem opS_isNot : OpS (fun x y H Q => y = .non ∧ Q (.bl (!decide (x = .non))) H) (gIsN true) := fun Z H x y d e q Q nz hx hy ⟨he, hq⟩ k => by
  subst he
  cases hy
  exact ⟨rfl, k _ _ H (Same.refl _) (.bl _) (by rw [sd_non_iff hx]; simpa using hq)⟩
end Zk

set_option maxHeartbeats 1000000
/-! V42: an own list out of a sum of lists, of list(text). -/
namespace Zk
open PySem PySem.Spec PyProof.Rows L2 GxR TL SX
abbrev DRN := DEnv → (List PyData → Prop) → Prop
/-- an expression whose value is a new list -/
def tNL (Ta : List Addr) (nm : Str) (r : DRN) : TE := fun σ H Q => ∃ (C : DC Ta nm) (E : DEnv) (q : List PyData → Prop), St C H σ E ∧ r E q ∧
  ∀ ds vs H1, Go C H H1 → Ok C H1 → SdL (msk (Zof C σ E) H1) vs ds → ds.length ≤ sizeLine → q ds → ∀ p, H1 p = none → Q (.ref p) (upd H1 p (.lst vs))
section
variable {X : Cx} {Ta : List Addr} {nm : Str} {a b e : Expr} {ra rb r : DR} {pos p : Pos} {rn : DRN}
theorem nl_cat (ha : PE X a (tD Ta nm ra)) (hb : PE X b (tD Ta nm rb)) : PE X (.BinOp a .Add b pos) (tNL Ta nm fun E q => ra E fun d => rb E fun d' => ∃ xs ys, d = .list xs ∧ d' = .list ys ∧ xs.length + ys.length ≤ sizeLine ∧ q (xs ++ ys)) :=
  PE.weak (pe_op op_cat ha hb) fun σ H Q ⟨C, E, q, st, hr, k⟩ => ⟨C, E, _, st, hr, fun d v H1 g1 k1 sd hd => ⟨C, E, _, st.step g1 k1, hd, fun d' v' H2 g2 k2 sd' ⟨xs, ys, e1, e2, hl, hq⟩ => by
    subst e1 e2
    obtain ⟨c, vs, rfl, hc, sv⟩ := sd_lst (sd.sm (Go.zof g2))
    obtain ⟨c', vs', rfl, hc', sv'⟩ := sd_lst sd'
    exact ⟨c, c', vs, vs', rfl, rfl, (msk_some.mp hc).2, (msk_some.mp hc').2, by rw [sv.len, sv'.len]; exact hl, fun p hp => k (xs ++ ys) (vs ++ vs') H2 (g1.trans g2) k2 (sv.app sv') (by rw [List.length_append]; exact hl) hq p hp⟩⟩⟩
/-- x = e, x the owner of the new list -/
@[simp] def rOwn (i : Nat) (rn : DRN) : DRS := fun K E => rn E fun ds => i < E.length ∧ K.nx (E.set i (.lst ds))
theorem ds_own {st : Stmt} {i : Nat} (h : PS X st (tAsg (tNL Ta nm rn) (gName i))) : PS X st (tDS Ta nm (rOwn i rn)) := PS.weak h fun D σ H ⟨C, E, K, s, re, h⟩ =>
  ⟨C, E, _, s, h, fun ds vs H1 g1 k1 sds hl ⟨hi, hq⟩ p hp => by
    have s1 := s.step g1 k1
    exact re.nx _ _ _ (s1.own (e := .lst ds) (by rw [s.len]; exact hi) hp rfl fun M H' up h => ⟨p, vs, rfl, h, sds.sm (fun b u e _ => up b u e), s1.he_none hp, fun z => s1.new hp (.inl z)⟩) hq⟩
end
end Zk

set_option maxHeartbeats 1000000
/-! V43: any data in a list. -/
namespace Zk
open PySem PySem.Spec PyProof.Rows L2 GxR TL SX
section
variable {X : Cx}
def rInS (n : Bool) : R2 := fun x y H Q => ∃ d ds, Sd H x d ∧ Sd H y (.list ds) ∧ SeqAt.shaped d = true ∧ SeqAt.shaped (.list ds) = true ∧ Q (.bl (n != ds.any fun z => PyData.eqv z d)) H
theorem op_inSD (S : SysB X.base) (hu : X.A.units + 65 < cLine) : OpR X (compareOp .In) (rInS false) := by
  intro pins s σ H x y v u Q I rx ry h
  obtain ⟨d, ds, hd, he, sd, se, q⟩ := h
  obtain ⟨as, r1, _⟩ := hd.reads I S rx
  obtain ⟨bs, r2, _⟩ := he.reads I S ry
  exact SeqAt.in_list_reads r2 r1 (SeqAt.canLay_of_shaped se) (SeqAt.canLay_of_shaped sd) (room_in_shaped sd hu) ⟨.bl _, H, I, rfl, by simpa using q⟩
theorem op_notInSD (S : SysB X.base) (hu : X.A.units + 65 < cLine) : OpR X (compareOp .NotIn) (rInS true) := by
  intro pins s σ H x y v u Q I rx ry h
  obtain ⟨d, ds, hd, he, sd, se, q⟩ := h
  obtain ⟨as, r1, _⟩ := hd.reads I S rx
  obtain ⟨bs, r2, _⟩ := he.reads I S ry
  exact SeqAt.notIn_list_reads r2 r1 (SeqAt.canLay_of_shaped se) (SeqAt.canLay_of_shaped sd) (room_in_shaped sd hu) ⟨.bl _, H, I, rfl, by simpa using q⟩
@[simp] def gInS (n : Bool) : DG2 := fun d e q => ∃ ds, e = .list ds ∧ SeqAt.shaped d = true ∧ SeqAt.shaped (.list ds) = true ∧ q (.bool (n != ds.any fun z => PyData.eqv z d))
theorem opS_inSD (n : Bool) : OpS (rInS n) (gInS n) := fun Z H x y d e q Q _ hx hy ⟨ds, e1, h1, h2, hq⟩ k => by
  subst e1
  exact ⟨d, ds, hx.un, hy.un, h1, h2, k _ _ H (Same.refl _) (.bl _) hq⟩
end
end Zk

set_option maxHeartbeats 1000000
/-! V44: own dicts whose keys are tuples; in, not in, get of own dicts. -/
namespace Zk
open PySem PySem.Spec PyProof.Rows L2 GxR
section
variable {Ta : List Addr} {nm : Str} {C : DC Ta nm} {H H1 H' : Hp} {σ τ : L2.St} {E F : DEnv}
theorem lc_insT {p : Addr} {vs : List (List Key × V)} {ds : List (List Key × PyData)} (s : St C H1 σ E) (hp : H1 p = none) (sds : SdKs (msk (Zof C σ E) H1) vs ds) (t : St (lcC C (upd H1 p (.dT vs)) σ E p) H' (σ ++ τ) (E ++ F)) : St C H' (σ ++ some (.ref p) :: τ) (E ++ .dct ds :: F) := by
  have nz := s.new hp
  have kept : ∀ b o, H1 b = some o → (∀ ps, o ≠ .tbl ps) → ¬ Own σ E b → ¬ C.Dk b → (lcC C (upd H1 p (.dT vs)) σ E p).He b = some o ∧ H' b = some o := fun b o e n no nd => by
    have e2 : upd H1 p (.dT vs) b = some o := (upd_ne (fun y : b = p => by rw [y, hp] at e; cases e)).trans e
    have e3 : (lcC C (upd H1 p (.dT vs)) σ E p).He b = some o := msk_some.mpr ⟨no, ntb_of e2 n⟩
    exact ⟨e3, t.go b o e3 n nd⟩
  have np : ¬ Own σ E p := fun o => nz (.inr (.inr o))
  have hep : (lcC C (upd H1 p (.dT vs)) σ E p).He p = some (.dT vs) := msk_some.mpr ⟨np, ntb_of upd_same fun _ z => nomatch z⟩
  have hp' : H' p = some (.dT vs) := t.go p _ hep (fun _ z => nomatch z) fun k => nz (.inr (.inl k))
  have heC : ∀ a, (lcC C (upd H1 p (.dT vs)) σ E p).He a = none → C.He a = none := fun a h => by
    cases q : C.He a with
    | none => rfl
    | some o =>
      have n : ∀ ps, o ≠ .tbl ps := fun ps z => s.wf.notb a ps (by rw [q, z])
      by_cases kd : C.Dk a
      · obtain ⟨o2, e2, n2⟩ := s.ok.at kd
        have : (lcC C (upd H1 p (.dT vs)) σ E p).He a = some o2 := msk_some.mpr ⟨(fun z => by rw [(own_none s z).1] at q; cases q), ntb_of ((upd_ne (fun y : a = p => by rw [y, hp] at e2; cases e2)).trans e2) n2⟩
        rw [this] at h
        cases h
      · have e1 := s.go a o q n kd
        rw [(kept a o e1 n (fun z => by rw [(own_none s z).1] at q; cases q) kd).1] at h
        cases h
  have zz : ∀ b, Zof C (σ ++ some (.ref p) :: τ) (E ++ .dct ds :: F) b → Zof (lcC C (upd H1 p (.dT vs)) σ E p) (σ ++ τ) (E ++ F) b := fun b z => by
    rcases z with z | z | ⟨i, e, h1, h2, h3⟩
    · exact .inl (.inl z)
    · exact .inr (.inl z)
    · rw [get_ins] at h1 h3
      rw [s.len] at h3
      by_cases i1 : i < E.length
      · rw [if_pos i1] at h1 h3
        exact .inr (.inr ⟨i, e, h1, h2, h3⟩)
      · rw [if_neg i1] at h1 h3
        by_cases i2 : i = E.length
        · rw [if_pos i2] at h1 h3
          cases h3
          exact .inl (.inr rfl)
        · rw [if_neg i2] at h1 h3
          exact .inr (.inr ⟨i - 1, e, h1, h2, h3⟩)
  have less : Sm (msk (Zof (lcC C (upd H1 p (.dT vs)) σ E p) (σ ++ τ) (E ++ F)) H') (msk (Zof C (σ ++ some (.ref p) :: τ) (E ++ .dct ds :: F)) H') := msk_less zz
  have hl := len_eq t s.len
  have toC : ∀ {o : Option V} {e : DV}, SlotOk (lcC C (upd H1 p (.dT vs)) σ E p) (msk (Zof (lcC C (upd H1 p (.dT vs)) σ E p) (σ ++ τ) (E ++ F)) H') H' o e → SlotOk C (msk (Zof C (σ ++ some (.ref p) :: τ) (E ++ .dct ds :: F)) H') H' o e := fun {o e} z => by
    cases e with
    | d x => obtain ⟨v, e, sd⟩ := z; exact ⟨v, e, sd.sm less⟩
    | deck => exact z
    | no => trivial
    | lst xs => obtain ⟨a, ws, e, h, sd, n0, n1⟩ := z; exact ⟨a, ws, e, h, sd.sm less, heC a n0, fun y => n1 (.inl y)⟩
    | dic xs => obtain ⟨a, ws, e, h, sd, n0, n1⟩ := z; exact ⟨a, ws, e, h, SdKs.sm less sd, heC a n0, fun y => n1 (.inl y)⟩
    | dct xs => obtain ⟨a, ws, e, h, sd, n0, n1⟩ := z; exact ⟨a, ws, e, h, SdKs.sm less sd, heC a n0, fun y => n1 (.inl y)⟩
  refine ⟨s.wf, fun b o e n nd => ?_, ⟨t.ok.tb, t.ok.dk⟩, by simp [hl, s.len], fun i e he => ?_, fun i j e e' a ne h1 o1 h2 o2 h3 => ?_⟩
  · exact (kept b o (s.go b o e n nd) n (fun z => by rw [(own_none s z).1] at e; cases e) nd).2
  · rw [get_ins] at he
    rw [get_ins, s.len]
    by_cases i1 : i < E.length
    · rw [if_pos i1] at he
      rw [if_pos i1]
      obtain ⟨o, ho, z⟩ := t.slot i e he
      exact ⟨o, ho, toC z⟩
    · rw [if_neg i1] at he
      rw [if_neg i1]
      by_cases i2 : i = E.length
      · rw [if_pos i2] at he
        rw [if_pos i2]
        cases he
        refine ⟨_, rfl, p, vs, rfl, hp', ?_, s.he_none hp, fun z => nz (.inl z)⟩
        refine SdKs.sm (fun b o e n => ?_) sds
        obtain ⟨z, e⟩ := msk_some.mp e
        obtain ⟨k1, k2⟩ := kept b o e n (fun y => z (.inr (.inr y))) (fun y => z (.inr (.inl y)))
        refine msk_some.mpr ⟨fun y => ?_, k2⟩
        rcases zz b y with (y | y) | y | y
        · exact z (.inl y)
        · rw [y, hp] at e; cases e
        · exact z (.inr (.inl y))
        · rw [(own_none t y).1] at k1
          cases k1
      · rw [if_neg i2] at he
        rw [if_neg i2]
        obtain ⟨o, ho, z⟩ := t.slot _ e he
        exact ⟨o, ho, toC z⟩
  · have off : ∀ (j : Nat) (u : DV) (a : Addr), (E ++ F)[j]? = some u → u.own = true → (σ ++ τ)[j]? = some (some (V.ref a)) → a ≠ p := fun j u a g1 g2 g3 y => by
      have := (own_none t (⟨j, u, g1, g2, g3⟩ : Own _ _ a)).2
      exact this (.inr y)
    have sp : ∀ (k : Nat) (u : DV) (a : Addr), (E ++ DV.dct ds :: F)[k]? = some u → u.own = true → (σ ++ some (V.ref p) :: τ)[k]? = some (some (V.ref a)) → (k = E.length ∧ a = p) ∨ (k ≠ E.length ∧ (E ++ F)[if k < E.length then k else k - 1]? = some u ∧ (σ ++ τ)[if k < E.length then k else k - 1]? = some (some (V.ref a))) := fun k u a g1 g2 g3 => by
      rw [get_ins] at g1 g3
      rw [s.len] at g3
      by_cases i1 : k < E.length
      · rw [if_pos i1] at g1 g3
        rw [if_pos i1]
        exact .inr ⟨by omega, g1, g3⟩
      · rw [if_neg i1] at g1 g3
        rw [if_neg i1]
        by_cases i2 : k = E.length
        · rw [if_pos i2] at g3
          cases g3
          exact .inl ⟨i2, rfl⟩
        · rw [if_neg i2] at g1 g3
          exact .inr ⟨i2, g1, g3⟩
    intro h4
    rcases sp i e a h1 o1 h3 with ⟨q1, q2⟩ | ⟨q1, q2, q3⟩
    · rcases sp j e' a h2 o2 h4 with ⟨r1, _⟩ | ⟨r1, r2, r3⟩
      · omega
      · exact off _ _ _ r2 o2 r3 q2
    · rcases sp j e' a h2 o2 h4 with ⟨r1, r2⟩ | ⟨r1, r2, r3⟩
      · exact off _ _ _ q2 o1 q3 r2
      · refine t.dist _ _ e e' a (fun y => ne ?_) q2 o1 r2 o2 q3 r3
        split at y <;> split at y <;> omega
end
section
variable {Ta : List Addr} {nm : Str} {X : Cx} {e : Expr} {es : List Expr} {p pos : Pos}
@[simp] def rpT (rs : DRP) : DRP := fun E q => rs E fun ws => q (.dct [] :: ws)
theorem dp_dT {rs : DRP} (h' : PA X es (tPA Ta nm rs)) (hs : starEach (.Dict [] [] p :: es) X.env = (false, eval (.Dict [] [] p) X.env) :: starEach es X.env := by rfl) : PA X (.Dict [] [] p :: es) (tPA Ta nm (rpT rs)) := PA.weak (pa_cons pe_dnewT h' hs) fun σ H Q ⟨C, E, q, s, hr, k⟩ => fun a ha =>
  ⟨lcC C (upd H a (.dT [])) σ E a, E, _, lc_inO (oD := .dT []) (fun _ z => nomatch z) s (Same.go (same_new ha _)) (s.ok.same (same_new ha _)) ha upd_same, hr, fun ws vs H2 hl s2 hq => k (.dct [] :: ws) (.ref a :: vs) H2 (by simp [hl]) (lc_insT s ha .nil s2) hq⟩
end
/-! ### keys -/
def keysOf : List PyData → Option (List Key)
  | [] => some []
  | x :: r => (keyOfD x).bind fun a => (keysOf r).bind fun b => some (a :: b)
def keyTD : PyData → Option (List Key)
  | .tuple xs => keysOf xs
  | _ => none
theorem keys_v {M : Hp} : ∀ {vs : List V} {xs : List PyData} {k : List Key}, SdL M vs xs → keysOf xs = some k → vs = k.map kV
  | _, _, _, .nil, e => by cases e; rfl
  | _, _, k, .cons h t, e => by
    simp only [keysOf, Option.bind_eq_some_iff] at e
    obtain ⟨a, e1, b, e2, e3⟩ := e
    cases e3
    rw [List.map_cons, key_v h e1, keys_v t e2]
theorem keyT_v {M : Hp} {v : V} {d : PyData} {k : List Key} (h : Sd M v d) (e : keyTD d = some k) : ∃ b, v = .ref b ∧ M b = some (.tup (k.map kV)) := by
  cases d with
  | tuple xs =>
    obtain ⟨a, vs, rfl, ha, sv⟩ := sd_tup h
    exact ⟨a, rfl, by rw [ha, keys_v sv e]⟩
  | _ => cases e
section
variable {Ta : List Addr} {nm : Str} {C : DC Ta nm} {H H' : Hp} {σ : L2.St} {E : DEnv} {i : Nat} {d : PyData} {v : V} {a p : Addr}
theorem ownT_at (s : St C H σ E) {xs : List (List Key × PyData)} (hx : E[i]? = some (.dct xs)) : ∃ a ks, σ[i]? = some (some (V.ref a)) ∧ H a = some (.dT ks) ∧ SdKs (msk (Zof C σ E) H) ks xs ∧ C.He a = none ∧ ¬ C.Z0 a := by
  obtain ⟨o, ho, a, ks, rfl, ha, sd, n0, n1⟩ := s.slot i _ hx
  exact ⟨a, ks, ho, ha, sd, n0, n1⟩
theorem SdKs.noval {κ : Type} [DecidableEq κ] {M : Hp} {k : κ} : ∀ {ks : List (κ × V)} {es : List (κ × PyData)}, SdKs M ks es → valD es k = none → valV ks k = none
  | _, _, .nil, _ => rfl
  | p :: ks, q :: es, .cons h t, e => by
    by_cases z : q.1 = k
    · have : valD (q :: es) k = some q.2 := by simp [valD, List.find?_cons, z]
      rw [this] at e
      cases e
    · have : valD (q :: es) k = valD es k := by simp [valD, List.find?_cons, z]
      rw [this] at e
      exact (valV_neg (fun y => z (h.1.symm.trans y))).trans (SdKs.noval t e)
theorem SdKs.isSome {κ : Type} [DecidableEq κ] {M : Hp} {k : κ} {ks : List (κ × V)} {es : List (κ × PyData)} (h : SdKs M ks es) : (valV ks k).isSome = (valD es k).isSome := by
  cases e : valD es k with
  | none => rw [h.noval e]; rfl
  | some d =>
    obtain ⟨v, e1, _⟩ := h.val e
    rw [e1]
    rfl
end
section
variable {X : Cx} {Ta : List Addr} {nm : Str} {e e2 : Expr} {st : Stmt} {sts : List Stmt} {r r2 ry rv : DR} {r1 : DRS} {pos p p2 : Pos} {x : Str} {i : Nat}
/-- x = {} -/
@[simp] def rDNewT (i : Nat) : DRS := fun K E => i < E.length ∧ K.nx (E.set i (.dct []))
theorem ds_dnewT (h : PS X st (tAsg tDNewT (gName i))) : PS X st (tDS Ta nm (rDNewT i)) := PS.weak h fun D σ H ⟨C, E, K, s, re, ⟨hi, hq⟩⟩ p hp =>
  re.nx _ _ _ (s.own (e := .dct []) (by rw [s.len]; exact hi) hp rfl fun M H' up h => ⟨p, [], rfl, h, .nil, s.he_none hp, fun z => s.new hp (.inl z)⟩) hq
/-- x[k] = e -/
@[simp] def rDPutT (i : Nat) (ry rv : DR) : DRS := fun K E => rv E fun d => ∃ kvs, E[i]? = some (.dct kvs) ∧ ry E fun y => ∃ k, keyTD y = some k ∧ kvs.length < sizeLine ∧ K.nx (E.set i (.dct (putD kvs k d)))
theorem ds_dputT (h : PS X st (sDPut (tVar i) (tD Ta nm ry) (tD Ta nm rv))) : PS X st (tDS Ta nm (rDPutT i ry rv)) := PS.weak h fun D σ H ⟨C, E, K, s, re, h⟩ =>
  ⟨C, E, _, s, h, fun d v H1 g1 k1 sd ⟨kvs, hx, hq⟩ => by
    have s1 := s.step g1 k1
    obtain ⟨a, ks, ho, ha, sk, n0, n1⟩ := ownT_at s1 hx
    refine ⟨_, ho, C, E, _, s1, hq, fun y u H2 g2 k2 sy ⟨k, ek, hl, hq⟩ => ?_⟩
    have s2 := s1.step g2 k2
    obtain ⟨a2, ks2, ho2, ha2, sk2, _, _⟩ := ownT_at s2 hx
    rw [ho] at ho2
    cases ho2
    obtain ⟨b, rfl, hb⟩ := keyT_v sy ek
    refine ⟨a, _, rfl, DPut.t ha2 (msk_some.mp hb).2 (by rw [Paired.length sk2]; exact hl), ?_⟩
    exact re.nx _ _ _ (s2.write (e' := .dct (putD kvs k d)) hx rfl rfl ho n0 (fun ps z => by rw [ha2] at z; cases z) ⟨a, _, rfl, upd_same, sk2.put (sd.sm (Go.zof g2)), n0, n1⟩) hq⟩
/-- x[k] -/
@[simp] def rDGetT (i : Nat) (r : DR) : DR := fun E q => ∃ kvs, E[i]? = some (.dct kvs) ∧ r E fun y => ∃ k d, keyTD y = some k ∧ valD kvs k = some d ∧ q d
theorem dx_dgetT (hu : X.A.units + 1 < cLine) (hx : PE X (.Name x p) (tVar i)) (he : PE X e (tD Ta nm r)) (hs : NoSl e) : PE X (.Subscript (.Name x p) e pos) (tD Ta nm (rDGetT i r)) := PE.weak (pe_dget hu hx he hs) fun σ H Q ⟨C, E, q, s, ⟨kvs, hx, hr⟩, k⟩ => by
  obtain ⟨a, ks, ho, ha, sk, n0, n1⟩ := ownT_at s hx
  refine ⟨_, ho, C, E, _, s, hr, fun y u H1 g1 k1 sy ⟨kk, d, ek, ed, hq⟩ => ?_⟩
  obtain ⟨a2, ks2, ho2, ha2, sk2, _, _⟩ := ownT_at (s.step g1 k1) hx
  rw [ho] at ho2
  cases ho2
  obtain ⟨v, ev, sv⟩ := sk2.val ed
  obtain ⟨b, rfl, hb⟩ := keyT_v sy ek
  have z := DGet.t (k := kk) ha2 (msk_some.mp hb).2
  rw [ev] at z
  exact ⟨a, v, rfl, z, k d v H1 g1 k1 sv hq⟩
/-- k in x, k not in x: x an own dict -/
@[simp] def rInOT (n : Bool) (i : Nat) (r : DR) : DR := fun E q => r E fun y => ∃ kvs k, E[i]? = some (.dct kvs) ∧ keyTD y = some k ∧ q (.bool (n != (valD kvs k).isSome))
@[simp] def rInOD (n : Bool) (i : Nat) (r : DR) : DR := fun E q => r E fun y => ∃ kvs k, E[i]? = some (.dic kvs) ∧ keyOfD y = some k ∧ q (.bool (n != (valD kvs k).isSome))
theorem inOT_run : ∀ σ H Q, tD Ta nm (rInOT false i r) σ H Q → tDIn (tD Ta nm r) (tVar i) σ H Q := fun σ H Q ⟨C, E, q, s, hr, k⟩ =>
  ⟨C, E, _, s, hr, fun y u H1 g1 k1 sy ⟨kvs, kk, hx, ek, hq⟩ => by
    obtain ⟨a, ks, ho, ha, sk, _, _⟩ := ownT_at (s.step g1 k1) hx
    obtain ⟨b, rfl, hb⟩ := keyT_v sy ek
    refine ⟨_, ho, a, _, rfl, DGet.t (k := kk) ha (msk_some.mp hb).2, ?_⟩
    rw [sk.isSome]
    exact k (.bool _) _ H1 g1 k1 (.bl _) (by simpa using hq)⟩
theorem ninOT_run : ∀ σ H Q, tD Ta nm (rInOT true i r) σ H Q → tDNotIn (tD Ta nm r) (tVar i) σ H Q := fun σ H Q ⟨C, E, q, s, hr, k⟩ =>
  ⟨C, E, _, s, hr, fun y u H1 g1 k1 sy ⟨kvs, kk, hx, ek, hq⟩ => by
    obtain ⟨a, ks, ho, ha, sk, _, _⟩ := ownT_at (s.step g1 k1) hx
    obtain ⟨b, rfl, hb⟩ := keyT_v sy ek
    refine ⟨_, ho, a, _, rfl, DGet.t (k := kk) ha (msk_some.mp hb).2, ?_⟩
    rw [sk.isSome]
    exact k (.bool _) _ H1 g1 k1 (.bl _) (by simpa using hq)⟩
theorem inOD_run : ∀ σ H Q, tD Ta nm (rInOD false i r) σ H Q → tDIn (tD Ta nm r) (tVar i) σ H Q := fun σ H Q ⟨C, E, q, s, hr, k⟩ =>
  ⟨C, E, _, s, hr, fun y u H1 g1 k1 sy ⟨kvs, kk, hx, ek, hq⟩ => by
    obtain ⟨a, ks, ho, ha, sk, _, _⟩ := ownD_at (s.step g1 k1) hx
    refine ⟨_, ho, a, _, rfl, (by rw [key_v sy ek]; exact DGet.k (k := kk) ha), ?_⟩
    rw [sk.isSome]
    exact k (.bool _) _ H1 g1 k1 (.bl _) (by simpa using hq)⟩
theorem ninOD_run : ∀ σ H Q, tD Ta nm (rInOD true i r) σ H Q → tDNotIn (tD Ta nm r) (tVar i) σ H Q := fun σ H Q ⟨C, E, q, s, hr, k⟩ =>
  ⟨C, E, _, s, hr, fun y u H1 g1 k1 sy ⟨kvs, kk, hx, ek, hq⟩ => by
    obtain ⟨a, ks, ho, ha, sk, _, _⟩ := ownD_at (s.step g1 k1) hx
    refine ⟨_, ho, a, _, rfl, (by rw [key_v sy ek]; exact DGet.k (k := kk) ha), ?_⟩
    rw [sk.isSome]
    exact k (.bool _) _ H1 g1 k1 (.bl _) (by simpa using hq)⟩
theorem dx_inOT (hu : X.A.units + 1 < cLine) (h : PE X e (tD Ta nm r)) (hx : PE X (.Name x p) (tVar i)) (hm : behindInMarks .In (.Name x p) = false := by rfl) : PE X (.Compare e [.In] [.Name x p] pos) (tD Ta nm (rInOT false i r)) := PE.weak (pe_cmp (pc_din hu h hx) hm) inOT_run
theorem dt_inOT (hu : X.A.units + 1 < cLine) (h : PE X e (tD Ta nm r)) (hx : PE X (.Name x p) (tVar i)) (hm : behindInMarks .In (.Name x p) = false := by rfl) : L2.PT X (.Compare e [.In] [.Name x p] pos) (tDT Ta nm (rTest (rInOT false i r))) := PTx.weak (pt_cmp (pc_din hu h hx) hm) (test_of inOT_run)
theorem dx_notInOT (hu : X.A.units + 1 < cLine) (h : PE X e (tD Ta nm r)) (hx : PE X (.Name x p) (tVar i)) (hm : behindInMarks .NotIn (.Name x p) = false := by rfl) : PE X (.Compare e [.NotIn] [.Name x p] pos) (tD Ta nm (rInOT true i r)) := PE.weak (pe_cmp (pc_dnotin hu h hx) hm) ninOT_run
theorem dt_notInOT (hu : X.A.units + 1 < cLine) (h : PE X e (tD Ta nm r)) (hx : PE X (.Name x p) (tVar i)) (hm : behindInMarks .NotIn (.Name x p) = false := by rfl) : L2.PT X (.Compare e [.NotIn] [.Name x p] pos) (tDT Ta nm (rTest (rInOT true i r))) := PTx.weak (pt_cmp (pc_dnotin hu h hx) hm) (test_of ninOT_run)
theorem dx_inOD (hu : X.A.units + 1 < cLine) (h : PE X e (tD Ta nm r)) (hx : PE X (.Name x p) (tVar i)) (hm : behindInMarks .In (.Name x p) = false := by rfl) : PE X (.Compare e [.In] [.Name x p] pos) (tD Ta nm (rInOD false i r)) := PE.weak (pe_cmp (pc_din hu h hx) hm) inOD_run
theorem dt_inOD (hu : X.A.units + 1 < cLine) (h : PE X e (tD Ta nm r)) (hx : PE X (.Name x p) (tVar i)) (hm : behindInMarks .In (.Name x p) = false := by rfl) : L2.PT X (.Compare e [.In] [.Name x p] pos) (tDT Ta nm (rTest (rInOD false i r))) := PTx.weak (pt_cmp (pc_din hu h hx) hm) (test_of inOD_run)
theorem dx_notInOD (hu : X.A.units + 1 < cLine) (h : PE X e (tD Ta nm r)) (hx : PE X (.Name x p) (tVar i)) (hm : behindInMarks .NotIn (.Name x p) = false := by rfl) : PE X (.Compare e [.NotIn] [.Name x p] pos) (tD Ta nm (rInOD true i r)) := PE.weak (pe_cmp (pc_dnotin hu h hx) hm) ninOD_run
theorem dt_notInOD (hu : X.A.units + 1 < cLine) (h : PE X e (tD Ta nm r)) (hx : PE X (.Name x p) (tVar i)) (hm : behindInMarks .NotIn (.Name x p) = false := by rfl) : L2.PT X (.Compare e [.NotIn] [.Name x p] pos) (tDT Ta nm (rTest (rInOD true i r))) := PTx.weak (pt_cmp (pc_dnotin hu h hx) hm) (test_of ninOD_run)
/-- x.get(k, e): x an own dict -/
@[simp] def rGetT (i : Nat) (r r2 : DR) : DR := fun E q => (∃ kvs, E[i]? = some (.dct kvs)) ∧ r E fun y => r2 E fun z => ∃ kvs k, E[i]? = some (.dct kvs) ∧ keyTD y = some k ∧ q ((valD kvs k).getD z)
@[simp] def rGetD (i : Nat) (r r2 : DR) : DR := fun E q => (∃ kvs, E[i]? = some (.dic kvs)) ∧ r E fun y => r2 E fun z => ∃ kvs k, E[i]? = some (.dic kvs) ∧ keyOfD y = some k ∧ q ((valD kvs k).getD z)
theorem dx_getT {apos cpos : Pos} (hu : X.A.units + 1 < cLine) (hx : PE X (.Name x p) (tVar i)) (h : PE X e (tD Ta nm r)) (h2 : PE X e2 (tD Ta nm r2)) (m : M2 X (.Name x p) "get" apos e e2 cpos) : PE X (.Call (.Attribute (.Name x p) "get" apos) [e, e2] [] cpos) (tD Ta nm (rGetT i r r2)) := PE.weak (pe_dget2 hu hx h h2 m) fun σ H Q ⟨C, E, q, s, ⟨⟨kvs0, hx0⟩, hr⟩, k⟩ => by
  obtain ⟨a, ks, ho, ha, sk, _, _⟩ := ownT_at s hx0
  refine ⟨_, ho, a, rfl, .inr ⟨_, .inl ha⟩, C, E, _, s, hr, fun y u H1 g1 k1 sy h2 => ⟨C, E, _, s.step g1 k1, h2, fun z v H2 g2 k2 sz ⟨kvs, kk, hx, ek, hq⟩ => ?_⟩⟩
  obtain ⟨a2, ks2, ho2, ha2, sk2, _, _⟩ := ownT_at ((s.step g1 k1).step g2 k2) hx
  rw [ho] at ho2
  cases ho2
  obtain ⟨b, rfl, hb⟩ := keyT_v (sy.sm (Go.zof g2)) ek
  refine ⟨_, DGet.t (k := kk) ha2 (msk_some.mp hb).2, ?_⟩
  cases ev : valD kvs kk with
  | none =>
    rw [ev] at hq
    rw [sk2.noval ev]
    exact k z v H2 (g1.trans g2) k2 sz hq
  | some d =>
    rw [ev] at hq
    obtain ⟨w, e1, e2⟩ := sk2.val ev
    rw [e1]
    exact k d w H2 (g1.trans g2) k2 e2 hq
theorem dx_getD {apos cpos : Pos} (hu : X.A.units + 1 < cLine) (hx : PE X (.Name x p) (tVar i)) (h : PE X e (tD Ta nm r)) (h2 : PE X e2 (tD Ta nm r2)) (m : M2 X (.Name x p) "get" apos e e2 cpos) : PE X (.Call (.Attribute (.Name x p) "get" apos) [e, e2] [] cpos) (tD Ta nm (rGetD i r r2)) := PE.weak (pe_dget2 hu hx h h2 m) fun σ H Q ⟨C, E, q, s, ⟨⟨kvs0, hx0⟩, hr⟩, k⟩ => by
  obtain ⟨a, ks, ho, ha, sk, _, _⟩ := ownD_at s hx0
  refine ⟨_, ho, a, rfl, .inl ⟨_, .inl ha⟩, C, E, _, s, hr, fun y u H1 g1 k1 sy h2 => ⟨C, E, _, s.step g1 k1, h2, fun z v H2 g2 k2 sz ⟨kvs, kk, hx, ek, hq⟩ => ?_⟩⟩
  obtain ⟨a2, ks2, ho2, ha2, sk2, _, _⟩ := ownD_at ((s.step g1 k1).step g2 k2) hx
  rw [ho] at ho2
  cases ho2
  have hk := DGet.k (k := kk) ha2
  rw [← key_v (sy.sm (Go.zof g2)) ek] at hk
  refine ⟨_, hk, ?_⟩
  cases ev : valD kvs kk with
  | none =>
    rw [ev] at hq
    rw [sk2.noval ev]
    exact k z v H2 (g1.trans g2) k2 sz hq
  | some d =>
    rw [ev] at hq
    obtain ⟨w, e1, e2⟩ := sk2.val ev
    rw [e1]
    exact k d w H2 (g1.trans g2) k2 e2 hq
end
end Zk

set_option maxHeartbeats 1000000
/-! V45: a, b, c = a text. -/
namespace UpS
open PySem PySem.W PyProof.Rows L2
section
variable {prog : Program} {w : World} {A : Around} {E : Value → Shared → Prop} {s : Shared}
theorem next_sign {it : Addr} {x : Str} {t : Tok} {ty : String} {i c : Nat} {Q : Option Value → Shared → Prop} (hty : ty = "str_ascii_iterator" ∨ ty = "str_iterator") (hit : s.heap.IsStrIter it ty x t i) (hx : x.cps[i]? = some c)
    (hQ : ∀ h', h'.IsStrIter it ty x t (i + 1) → Heap.SameBut it s.heap h' → Q (some (.str ⟨#[c]⟩ s.toks)) { s with heap := h', toks := s.toks + 1 }) :
    wpAny (model prog w) A (pyNext (.ref it)) Q E s := by
  rcases hty with rfl | rfl
  · exact wpAny_pyNext_ascii_item hit hx hQ
  · exact wpAny_pyNext_wide_item hit hx hQ
theorem next_end {it : Addr} {x : Str} {t : Tok} {ty : String} {i : Nat} {Q : Option Value → Shared → Prop} (hty : ty = "str_ascii_iterator" ∨ ty = "str_iterator") (hh : A.handled = none) (hit : s.heap.IsStrIter it ty x t i) (hx : x.cps[i]? = none)
    (hQ : ∀ h', Heap.ExtBut it s.heap h' → Q none { s with heap := h' }) : wpAny (model prog w) A (pyNext (.ref it)) Q E s := by
  rcases hty with rfl | rfl
  · exact wpAny_pyNext_ascii_end hh hit hx hQ
  · exact wpAny_pyNext_wide_end hh hit hx hQ
theorem draw_str {it : Addr} {x : Str} {t : Tok} {ty : String} (hty : ty = "str_ascii_iterator" ∨ ty = "str_iterator") : ∀ (n i : Nat) (s : Shared) (Q : List Value → Shared → Prop), s.heap.IsStrIter it ty x t i → i + n ≤ x.cps.size →
    (∀ h' tk vs, h'.IsStrIter it ty x t (i + n) → Heap.SameBut it s.heap h' → Vals (((x.cps.toList.drop i).take n).map fun c => V.str ⟨#[c]⟩) vs → Q vs { s with heap := h', toks := tk }) → wpAny (model prog w) A (draw (.ref it) n) Q E s
  | 0, i, s, Q, hit, _, hQ => by
    show wpAny _ _ (pure []) Q E s
    exact wpAny_pure (hQ s.heap s.toks [] hit (Heap.SameBut.refl ..) .nil)
  | n + 1, i, s, Q, hit, hle, hQ => by
    have hlt : i < x.cps.size := by omega
    show wpAny _ _ (pyNext (.ref it) >>= _) Q E s
    refine wpAny_bind (next_sign hty hit (Array.getElem?_eq_getElem hlt) fun h₁ hit₁ hs₁ => ?_)
    refine wpAny_bind (wpAny_holding (draw_str hty n (i + 1) _ _ hit₁ (by omega) fun h₂ tk vs hit₂ hs₂ hv => wpAny_pure ?_))
    refine hQ h₂ tk _ (by rw [show i + (n + 1) = i + 1 + n by omega]; exact hit₂) (hs₁.trans hs₂) ?_
    have hd : x.cps.toList.drop i = x.cps[i] :: x.cps.toList.drop (i + 1) := by
      rw [List.drop_eq_getElem_cons (by simpa using hlt)]
      simp
    rw [hd, List.take_succ_cons, List.map_cons]
    exact .cons ⟨_, rfl⟩ hv
theorem unpackItems_str {x : Str} {t : Tok} {Q : List Value → Shared → Prop} (hh : A.handled = none)
    (hQ : ∀ h' tk vs, Heap.ExtBut s.heap.objs.size s.heap h' → Vals (x.cps.toList.map fun c => V.str ⟨#[c]⟩) vs → Q vs { s with heap := h', toks := tk }) : wpAny (model prog w) A (unpackItems (.str x t) x.cps.size none) Q E s := by
  unfold unpackItems
  refine wpAny_bind ?_
  · unfold notIterableAtAll
    refine wpAny_bind (wpAny_specialOf (T := "str") (v := .str x t) rfl F.slot_str_iter.lookup ?_)
    refine wpAny_pure ?_
    simp only [Bool.false_eq_true, if_false]
    refine wpAny_bind (wpAny_holding (wpAny_pyIter_strU ?_))
    have hty : strIterType x = "str_ascii_iterator" ∨ strIterType x = "str_iterator" := by
      unfold strIterType
      split
      · exact .inl rfl
      · exact .inr rfl
    refine wpAny_bind (wpAny_holding (draw_str (it := s.heap.objs.size) (t := t) hty x.cps.size 0 _ _ ⟨_, Heap.get?_push_size _ rfl, rfl, rfl⟩ (by omega) fun h₁ tk vs hit₁ hs₁ hv => ?_))
    have hall : List.take x.cps.size (List.drop 0 x.cps.toList) = x.cps.toList := by
      rw [List.drop_zero]; exact List.take_of_length_le (by simp)
    rw [hall] at hv
    have hl := hv.length
    rw [List.length_map] at hl
    rw [if_neg (by rw [← hl]; simp)]
    refine wpAny_bind (wpAny_holding (next_end hty hh hit₁ (by simp) fun h₂ he₂ => ?_))
    simp only [Option.isSome_none, Bool.false_eq_true, if_false]
    exact wpAny_pure (hQ h₂ tk vs (fun b o hb e => he₂ b o hb (hs₁.extBut b o hb (Heap.get?_push_of_some _ e))) hv)
end
end UpS
namespace Zk
open PySem PySem.Spec PyProof.Rows L2 GxR
/-- (a, b, ..) = a text of that length -/
def gTupS (n : Nat) (t : TGs) : TG := fun v σ H Q => ∃ x : Str, v = .str x ∧ x.cps.size = n ∧ t (x.cps.toList.map fun c => V.str ⟨#[c]⟩) σ H Q
theorem pg_tupS {X : Cx} {es : List Expr} {k : Nat} {pos : Pos} {t : TGs} {n : Nat} (hc : X.calm = true) (h : PGs X es t)
    (hn : (assignEach es X.env).length = n := by rfl) (hst : (assignEach es X.env).findIdx? (·.1) = none := by rfl) : PG X (.Tuple es k pos) (gTupS n t) := by
  refine ⟨fun pins s σ H v u Q I r hw => ?_⟩
  obtain ⟨x, e1, hl, hw⟩ := hw
  subst e1
  obtain ⟨tk, rfl⟩ := r
  rw [PyProof.Rows.assign_Tuple]
  refine wpAny_bind (wpAny_standAt ?_)
  unfold unpack
  rw [hn, hst, ← hl]
  refine wpAny_bind (wpAny_holding (UpS.unpackItems_str (I.ok.hd hc) fun h' t' vs hx hv => ?_))
  have I1 : Inv X pins σ H { s with heap := h', toks := t' } := I.kept (t' := t') fun b o e => hx b o (Nat.ne_of_lt (Heap.lt_size e)) e
  exact h.run pins _ σ H _ _ Q I1 hv hw
@[simp] def rgTupS (n : Nat) (rgs : DRGs) : DRG := fun d E q => ∃ z : Str, d = .str z ∧ z.length = n ∧ rgs (signsD z) E q
theorem gs_tupS {Ta : List Addr} {nm : Str} {gs : List Nat} {u : TGs} {rgs : DRGs} {n : Nat} (b : GSs Ta nm gs u rgs) : GS Ta nm gs (gTupS n u) (rgTupS n rgs) := fun C H σ E v d q Q s sd ⟨z, e, hl, hq⟩ k => by
  subst e
  have e2 := sd_str sd
  subst e2
  have sg : ∀ l : List Nat, SdL (msk (Zof C σ E) H) (l.map fun c => V.str ⟨#[c]⟩) (l.map fun c => PyData.str ⟨#[c]⟩) := fun l => by
    induction l with
    | nil => exact .nil
    | cons c l ih => exact .cons (.str _) ih
  exact ⟨z, rfl, hl, b C H σ E _ _ q Q s (sg _) hq k⟩
end Zk

set_option maxHeartbeats 1000000
/-! V46: a, b = .., [] where not both names are plain locals. -/
namespace Zk
open PySem PySem.Spec PyProof.Rows L2 GxR
theorem ds_parC {X : Cx} {Ta : List Addr} {nm : Str} {K : PySem.W.Frag} {st : Stmt} {i j : Nat} {rs : DRP} (h : PS X st (tAsg (tTup (tPA Ta nm rs)) (gTup K 2 (gCons (gName i) (gCons (gName j) gNil))))) : PS X st (tDS Ta nm (rPar2 i j rs)) := PS.weak h fun D σ H ⟨C, E, K', s, re, h⟩ =>
  ⟨C, E, _, s, h, fun ws vs H1 hl s1 ⟨a, b, e, hi, hj, hq⟩ => by
    subst e
    obtain ⟨v, w, rfl⟩ : ∃ v w, vs = [v, w] := by
      match vs, hl with
      | [v, w], _ => exact ⟨v, w, rfl⟩
    refine ⟨by show 2 ≤ sizeLine; decide, fun p hp => ?_⟩
    have s2 := s1.step (Same.go (same_new hp (.tup [v, w]))) (s1.ok.same (same_new hp _))
    have m1 := St.mv (τ := [some w]) (F := [b]) s2 s.len hi
    have m2 := St.mv (τ := []) (F := []) m1 (by rw [List.length_set, List.length_set]; exact s.len) (by rw [List.length_set]; exact hj)
    rw [List.append_nil, List.append_nil] at m2
    exact ⟨p, _, rfl, SqT.of upd_same, rfl, v, _, rfl, w, _, rfl, rfl, re.nx _ _ _ m2 hq⟩⟩
end Zk

set_option maxHeartbeats 3200000
/-! V47: sorted(set(text)). -/
namespace StT
open PySem PySem.W PySem.Spec PyProof.Rows L2 PySem.Froz Srt
section
variable {P : Program} {w : World} {A : Around} {E : Value → Shared → Prop} {s : Shared}
/-- its places rise, and it can be walked -/
def Rises (w : World) (D : SD) : Prop := Ris D.2.2.place.toList ∧ (w.params.followText "set-order" = true ∨ D.2.2.led = true)
theorem rises_add {D : SD} (h : Rises w D) (k : Int) (v : Value) : Rises w (addTx k v D) := by
  obtain ⟨es, ep, t⟩ := D
  obtain ⟨h1, h2⟩ := h
  have a1 : Ris (layNew t es k v).2.1.place.toList := layNew_ris t es k v h1
  have a2 : w.params.followText "set-order" = true ∨ (layNew t es k v).2.1.led = true := h2.imp id fun z => (layNew_led t es k v).trans z
  have mid : ∀ t2 : SetTable, t2 = (layNew t es k v).2.1 ∨ t2 = { (layNew t es k v).2.1 with plain := false } → Ris t2.place.toList ∧ (w.params.followText "set-order" = true ∨ t2.led = true) := fun t2 ht => by
    rcases ht with rfl | rfl <;> exact ⟨a1, a2⟩
  have pick : (if (layNew t es k v).2.1.plain = true then { (layNew t es k v).2.1 with plain := false } else (layNew t es k v).2.1) = (layNew t es k v).2.1 ∨ (if (layNew t es k v).2.1.plain = true then { (layNew t es k v).2.1 with plain := false } else (layNew t es k v).2.1) = { (layNew t es k v).2.1 with plain := false } := by
    by_cases c : (layNew t es k v).2.1.plain = true
    · exact .inr (if_pos c)
    · exact .inl (if_neg c)
  have b := mid _ pick
  have tail : ∀ (es1 : Array (Int × Value)) (t2 : SetTable) (wd : Bool), Ris t2.place.toList ∧ (w.params.followText "set-order" = true ∨ t2.led = true) → Rises w (tailTx ep es1 t2 wd) := fun es1 t2 wd b => by
    unfold tailTx
    split
    · exact ⟨relayAll_ris _ _ _, b.2.imp id fun z => (relayAll_led _ _ _).trans z⟩
    · exact b
  exact tail _ _ _ b
/-- a text that is there already -/
theorem add_again {a : Addr} {T : String} {D : SD} {l : List Str} {k : Str} {u : Tok} {Q : Bool → Shared → Prop} (ho : s.heap.get? a = some (sObj T D)) (F : TxOk P w D l) (hk : k ∈ l) (hb : l.length < scanBound) (h : Q false s) :
    wpAny (model P w) A (setAddHashed a (.str k u) (hashStr w k)) Q E s := by
  obtain ⟨es, ep, t⟩ := D
  have fit : t.fits es.size = true := F.fit
  have els : ElemsOf (strKind P w) es.toList := F.el
  have size : es.size = l.length := F.sz
  unfold setAddHashed setAddHashedIn
  refine wpAny_holding (wpAny_bind (wpAny_setState_of ho (show (sObj T (es, ep, t)).data = .set es ep t from rfl) fit ?_))
  dsimp only
  rw [byScan_of (x := Value.str k u) rfl (by omega) els]
  simp only [↓reduceIte]
  unfold setAddByScan
  refine wpAny_bind (wpAny_bind (wpAny_rule ?_))
  refine wpAny_bind (wpAny_setScan_of (knd := strKind P w) (k := k) (is_str k u) ho rfl fit els ?_)
  obtain ⟨e, he, z⟩ := (F.mem k).mp hk
  cases hf : List.findIdx? (fun e => (strKind P w).is k e.2) es.toList with
  | none =>
    have := List.findIdx?_eq_none_iff.mp hf e he
    rw [z] at this
    cases this
  | some j => exact wpAny_pure (wpAny_pure h)
theorem sing_inj {c d : Nat} (h : sing c = sing d) : c = d := by
  have : [c] = [d] := congrArg (fun y : Str => y.cps.toList) h
  exact (List.cons.inj this).1
/-- the walk of the text's signs into the set -/
theorem text_loop {R : Result → Shared → Prop} {a it : Addr} (hne : a ≠ it) {x : Str} {t : Tok} {ty : String} (hty : ty = "str_ascii_iterator" ∨ ty = "str_iterator") (hh : A.handled = none) : ∀ (cs : List Nat) (i : Nat) (D : SD) (l : List Str) (s : Shared), x.cps.toList.drop i = cs →
    s.heap.get? a = some (sObj "set" D) → s.heap.IsStrIter it ty x t i → TxOk P w D l → Rises w D → l.Nodup → l.length + cs.length + 1 < scanBound →
    (∀ (h' : Heap) (tk : Nat) (D' : SD) (l' : List Str), (∀ b o, b ≠ a → b ≠ it → s.heap.get? b = some o → h'.get? b = some o) → h'.get? a = some (sObj "set" D') → TxOk P w D' l' → Rises w D' → l'.Nodup → (∀ k, k ∈ l' ↔ k ∈ l ∨ ∃ c ∈ cs, k = sing c) →
      R (.ok (.ret .none)) { s with heap := h', toks := tk }) → codeAny (model P w) A (.builtin "set.update.loop" ⟨[.ref a, .ref it], []⟩) R s
  | [], i, D, l, s, hd, ha, hit, F, r, nd, _, h => by
    refine codeAny_builtin PyProof.Rows.F.entry_set_update_loop ?_
    rw [Around.under_plainId PyProof.Rows.F.plain_set_update_loop _]
    show wpAny _ A.in1 (pyNext (.ref it) >>= _) _ _ s
    refine wpAny_bind (UpS.next_end hty (by simp [hh]) hit (at_end hd) fun h' eb => ?_)
    show wpAny _ A.in1 (ret Value.none) _ _ _
    exact wpAny_pure (h h' s.toks D l (fun b o _ hb e => eb b o hb e) (eb a _ hne ha) F r nd fun k => by simp)
  | c :: cs, i, D, l, s, hd, ha, hit, F, r, nd, hb, h => by
    obtain ⟨hx, hd2⟩ := at_of hd
    have hb' : l.length + (cs.length + 1) + 1 < scanBound := hb
    refine codeAny_builtin PyProof.Rows.F.entry_set_update_loop ?_
    rw [Around.under_plainId PyProof.Rows.F.plain_set_update_loop _]
    show wpAny _ A.in1 (pyNext (.ref it) >>= _) _ _ s
    refine wpAny_bind (UpS.next_sign hty hit hx fun h1 hit1 sb1 => ?_)
    show wpAny _ A.in1 (holding [Value.str (sing c) s.toks] (setAdd a (.str (sing c) s.toks)) >>= _) _ _ _
    refine wpAny_bind (wpAny_holding ?_)
    unfold setAdd
    refine wpAny_holding (wpAny_bind ((strKind P w).pyHash (k := sing c) (is_str _ _) ?_))
    have ha1 : h1.get? a = some (sObj "set" D) := (sb1.2 a hne).trans ha
    have keep1 : ∀ b o, b ≠ a → b ≠ it → s.heap.get? b = some o → h1.get? b = some o := fun b o _ hb e => (sb1.2 b hb).trans e
    by_cases hm : sing c ∈ l
    · refine add_again (s := { s with heap := h1, toks := s.toks + 1 + 1 }) ha1 F hm (by omega) ?_
      refine wpAny_pure ⟨plainId_quiet PyProof.Rows.F.plain_set_update_loop _, text_loop hne hty hh cs (i + 1) D l _ hd2 ha1 hit1 F r nd (by omega) fun h' tk D' l' k' g1 g2 g3 g4 g5 => ?_⟩
      refine h h' tk D' l' (fun b o q1 q2 e => k' b o q1 q2 (keep1 b o q1 q2 e)) g1 g2 g3 g4 fun k => ?_
      rw [g5 k]
      constructor
      · rintro (q | ⟨d, q1, q2⟩)
        · exact .inl q
        · exact .inr ⟨d, List.mem_cons_of_mem _ q1, q2⟩
      · rintro (q | ⟨d, q1, q2⟩)
        · exact .inl q
        · rcases List.mem_cons.mp q1 with rfl | q1
          · exact .inl (q2 ▸ hm)
          · exact .inr ⟨d, q1, q2⟩
    · refine add_x (l := l) (D := D) (s := { s with heap := h1, toks := s.toks + 1 + 1 }) ha1 F hm (by omega) ?_
      have ha2 := get_upd (sObj "set" (addTx (hashStr w (sing c)) (.str (sing c) s.toks) D)) ha1 rfl
      have hit2 : (h1.update a (fun _ => sObj "set" (addTx (hashStr w (sing c)) (.str (sing c) s.toks) D))).IsStrIter it ty x t (i + 1) := by
        obtain ⟨o, e, q⟩ := hit1
        exact ⟨o, PySem.Heap.get?_update_of_ne _ hne e, q⟩
      refine wpAny_pure ⟨plainId_quiet PyProof.Rows.F.plain_set_update_loop _, text_loop hne hty hh cs (i + 1) _ (sing c :: l) _ hd2 ha2 hit2 (add_ok s.toks F) (rises_add r _ _) (List.nodup_cons.mpr ⟨hm, nd⟩) (by show l.length + 1 + cs.length + 1 < scanBound; omega) fun h' tk D' l' k' g1 g2 g3 g4 g5 => ?_⟩
      refine h h' tk D' l' (fun b o q1 q2 e => k' b o q1 q2 (PySem.Heap.get?_update_of_ne _ (Ne.symm q1) (keep1 b o q1 q2 e))) g1 g2 g3 g4 fun k => ?_
      rw [g5 k]
      constructor
      · rintro (q | ⟨d, q1, q2⟩)
        · rcases List.mem_cons.mp q with rfl | q
          · exact .inr ⟨c, List.mem_cons_self .., rfl⟩
          · exact .inl q
        · exact .inr ⟨d, List.mem_cons_of_mem _ q1, q2⟩
      · rintro (q | ⟨d, q1, q2⟩)
        · exact .inl (List.mem_cons_of_mem _ q)
        · rcases List.mem_cons.mp q1 with rfl | q1
          · exact .inl (q2 ▸ List.mem_cons_self ..)
          · exact .inr ⟨d, q1, q2⟩
abbrev emptySet (w : World) : Obj := { cls := .type "set", dict := none, data := .set #[] 0 (.fresh 0 0 (!w.params.followText "set-order")) }
theorem rises_empty : Rises w (#[], 0, .fresh 0 0 (!w.params.followText "set-order")) := by
  refine ⟨List.Pairwise.nil, ?_⟩
  show _ ∨ (!w.params.followText "set-order") = true
  cases w.params.followText "set-order" <;> simp
/-- set(text) -/
theorem call_set_text {x : Str} {t : Tok} {Q : Value → Shared → Prop} (hh : A.handled = none) (hb : x.cps.toList.length + 1 < scanBound)
    (h : ∀ (h' : Heap) (tk : Nat) (D : SD) (l : List Str), h'.get? s.heap.objs.size = some (sObj "set" D) → TxOk P w D l → Rises w D → l.Nodup → (∀ k, k ∈ l ↔ ∃ c ∈ x.cps.toList, k = sing c) → (∀ b o, s.heap.get? b = some o → h'.get? b = some o) → Q (.ref s.heap.objs.size) { s with heap := h', toks := tk }) :
    wpAny (model P w) A (call (.type "set") [.str x t]) Q E s := by
  obtain ⟨c, tl, hmro⟩ := PySem.F.called_set.mro
  have hmade := PySem.F.called_set.made
  have hsub := PySem.F.called_set.sub
  refine wpAny_call (codeAny_of_tree ?_)
  show wpAny _ _ (callAny (.type "set") _) _ _ _
  refine wpAny_pure ⟨Code.quiet_builtin _ (by decide +kernel), codeAny_builtin PySem.F.entry_type_call ?_⟩
  rw [Around.under_plain (weight_type_call_type "set" [.str x t] []) rfl]
  have h1 := PySem.F.called_set.notType
  have h2 := PySem.F.called_set.canCreate
  have hct := PySem.F.typeCall_set_1 (.str x t)
  repeat (any_goals (first | assumption | wp_step))
  refine codeAny_mono (code_set_led1 (.str x t) (E := E) (Q₁ := fun obj s₁ => obj = .ref s.heap.objs.size ∧ s₁ = { s with heap := s.heap.push (emptySet w) }) ⟨rfl, rfl⟩) fun r s₁ hr => ?_
  cases r with
  | error e => exact hr
  | ok fl =>
    cases fl with
    | ret obj =>
      obtain ⟨rfl, rfl⟩ := hr
      have hS : (s.heap.push (emptySet w)).get? s.heap.objs.size = some (emptySet w) := Heap.get?_push_size _ rfl
      have hT : Shared.TypeIs { s with heap := s.heap.push (emptySet w) } (.ref s.heap.objs.size) "set" := ⟨_, hS, rfl⟩
      have hli := PySem.F.called_set.init.lookup
      have hbi := PySem.F.called_set.init.bind (.ref s.heap.objs.size)
      repeat (any_goals (first | assumption | wp_step))
      refine codeAny_mono (codeAny_call_builtin (R := wants (fun r s₂ => r = .none ∧ ∃ h' tk D l, s₂ = { s with heap := h', toks := tk } ∧ h'.get? s.heap.objs.size = some (sObj "set" D) ∧ TxOk P w D l ∧ Rises w D ∧ l.Nodup ∧
          (∀ k, k ∈ l ↔ ∃ c ∈ x.cps.toList, k = sing c) ∧ (∀ b o, s.heap.get? b = some o → h'.get? b = some o)) E) PySem.F.called_set.init.plain PySem.F.entry_set_init (check_set_init_1 hT ?_)) fun r₂ s₂ hr₂ => ?_
      · have hs1 : isSubtype (.type "str") (.type "set") = pure false := by rw [isSubtype_type]; kernel_rfl
        have hs2 : isSubtype (.type "str") (.type "frozenset") = pure false := by rw [isSubtype_type]; kernel_rfl
        have hne : (Value.type "str" == Value.type "dict") = false := by decide
        unfold Builtin.«set.__init__» noKeywords Builtin.Frozenset.updateFrom
        generalize hPI : pyIter = PI
        wp_walk
        subst hPI
        have hty : strIterType x = "str_ascii_iterator" ∨ strIterType x = "str_iterator" := by
          unfold strIterType
          split
          · exact .inl rfl
          · exact .inr rfl
        have old : ∀ b, b < s.heap.objs.size → b ≠ s.heap.objs.size ∧ b ≠ (s.heap.push (emptySet w)).objs.size := fun b hb => by
          rw [Heap.size_push]
          exact ⟨by omega, by omega⟩
        refine wpAny_pyIter_strU (wpAny_bind (wpAny_runValue ?_))
        refine text_loop (it := (s.heap.push (emptySet w)).objs.size) (t := t) (by rw [Heap.size_push]; exact Nat.ne_of_lt (Nat.lt_succ_self _)) hty (by simp [hh]) x.cps.toList 0 (#[], 0, .fresh 0 0 (!w.params.followText "set-order")) [] _ rfl (Heap.get?_push_of_some _ hS) ⟨_, Heap.get?_push_size _ rfl, rfl, rfl⟩ (TxOk.nil rfl) rises_empty .nil (by simpa using hb) fun h' tk D' l' kp g1 g2 g3 g4 g5 => ?_
        refine wpAny_pure ?_
        show wpAny _ _ (ret Value.none) _ _ _
        refine wpAny_pure ⟨rfl, h', tk, D', l', rfl, g1, g2, g3, g4, fun k => by rw [g5 k]; simp, fun b o e => ?_⟩
        obtain ⟨n1, n2⟩ := old b (Heap.lt_size e)
        exact kp b o n1 n2 (Heap.get?_push_of_some _ (Heap.get?_push_of_some _ e))
      · cases r₂ with
        | error e => exact hr₂
        | ok fl₂ =>
          cases fl₂ with
          | ret r =>
            obtain ⟨rfl, h', tk, D, l, rfl, q1, q2, q3, q4, q5, q6⟩ := hr₂
            repeat (any_goals (first | assumption | wp_step))
            exact h _ _ _ _ q1 q2 q3 q4 q5 q6
          | _ => exact hr₂.elim
    | _ => exact hr.elim
theorem perm_of {α : Type} [BEq α] [LawfulBEq α] : ∀ (l ks : List α), l.Nodup → (∀ k ∈ l, k ∈ ks) → ks.length ≤ l.length → l.Perm ks
  | [], ks, _, _, h => by
    have : ks = [] := List.length_eq_zero_iff.mp (by simpa using h)
    rw [this]
  | x :: r, ks, nd, sub, h => by
    obtain ⟨n1, n2⟩ := List.nodup_cons.mp nd
    have hx := sub x (List.mem_cons_self ..)
    have p := List.perm_cons_erase hx
    have hl := List.length_erase_of_mem hx
    have pos : 0 < ks.length := List.length_pos_of_mem hx
    refine ((perm_of r (ks.erase x) n2 (fun k hk => ?_) ?_).cons x).trans p.symm
    · refine (List.mem_erase_of_ne fun q => n1 ?_).mpr (sub k (List.mem_cons_of_mem _ hk))
      rw [← q]
      exact hk
    · rw [hl]
      have : ks.length ≤ r.length + 1 := h
      omega
theorem len_le {α : Type} [BEq α] [LawfulBEq α] : ∀ (l ks : List α), l.Nodup → (∀ k ∈ l, k ∈ ks) → l.length ≤ ks.length
  | [], ks, _, _ => Nat.zero_le _
  | x :: r, ks, nd, sub => by
    obtain ⟨n1, n2⟩ := List.nodup_cons.mp nd
    have hx := sub x (List.mem_cons_self ..)
    have hl := List.length_erase_of_mem hx
    have pos : 0 < ks.length := List.length_pos_of_mem hx
    have := len_le r (ks.erase x) n2 fun k hk => (List.mem_erase_of_ne fun q => n1 (by rw [← q]; exact hk)).mpr (sub k (List.mem_cons_of_mem _ hk))
    show r.length + 1 ≤ ks.length
    omega
/-- the texts of a set, in some order -/
theorem strs_of_set {D : SD} {l : List Str} (F : TxOk P w D l) (nd : l.Nodup) : ∃ ks : List Str, StrsAre (D.1.toList.map (·.2)) ks ∧ ks.Perm l := by
  have at_ : ∀ e ∈ D.1.toList, ∃ k u, e.2 = Value.str k u := fun e he => by
    obtain ⟨⟨k, hk, _⟩, _⟩ := F.el e he
    have hk' : Value.isStrOf k e.2 = true := hk
    cases hv : e.2 with
    | str k' u => exact ⟨k', u, rfl⟩
    | _ =>
      rw [hv] at hk'
      simp [Value.isStrOf] at hk'
  have all : ∀ v ∈ D.1.toList.map (·.2), ∃ k u, v = Value.str k u := fun v hv => by
    obtain ⟨e, he, rfl⟩ := List.mem_map.mp hv
    exact at_ e he
  refine ⟨(D.1.toList.map (·.2)).map strOf, strsAre_map _ all, (perm_of l _ nd (fun k hk => ?_) ?_).symm⟩
  · obtain ⟨e, he, z⟩ := (F.mem k).mp hk
    obtain ⟨k', u, hv⟩ := at_ e he
    have z' : Value.isStrOf k e.2 = true := z
    rw [hv] at z'
    have : k' = k := by simpa [Value.isStrOf] using z'
    exact List.mem_map.mpr ⟨e.2, List.mem_map.mpr ⟨e, he, rfl⟩, by rw [hv, ← this]; rfl⟩
  · rw [List.length_map, List.length_map, Array.length_toList]
    exact Nat.le_of_eq F.sz
/-- sorted(set of texts) -/
theorem sorted_text_set {a : Addr} {D : SD} {l : List Str} {Q : Value → Shared → Prop} (ho : s.heap.get? a = some (sObj "set" D)) (F : TxOk P w D l) (r : Rises w D) (nd : l.Nodup) (hh : A.handled = none) (hb : l.length < scanBound)
    (h : ∀ (s' : Shared) (p : Addr) (out : List Value) (c : Nat) (ys : List Str), (∀ b o, s.heap.get? b = some o → s'.heap.get? b = some o) → s'.gens = s.gens → s'.os = s.os → s.heap.objs.size ≤ p → s'.heap.get? p = some (seqObj "list" out.toArray c) → StrsAre out ys → ys.Perm l → sortedS ys = true → Q (.ref p) s') :
    wpAny (model P w) A (call (.builtin "sorted") [.ref a]) Q E s := by
  refine Calls.call_function_entry kind_sorted plain_sorted entry_sorted (args_sorted1 _) ?_
  unfold Builtin.«sorted»
  refine wpAny_bind (m := checkCount "sorted" 1 1 _) (wpAny_pure ?_)
  have hsz : D.1.size < scanBound := by rw [F.sz]; exact hb
  refine wpAny_bind (collect_set (A := A.in1) hh (es := D.1) (ep := D.2.1) (t := D.2.2) ⟨_, ho, rfl, rfl⟩ F.fit hsz r.1 r.2 fun s1 vs k1 hz g1 o1 pm => ?_)
  obtain ⟨ks, hks, pk⟩ := strs_of_set F nd
  obtain ⟨zs, hzs, pz⟩ : ∃ zs : List Str, StrsAre vs zs ∧ zs.Perm ks := by
    refine ⟨vs.map strOf, strsAre_map _ fun v hv => hks.all v (pm.mem_iff.mp hv), ?_⟩
    have q := pm.map strOf
    rw [hks.strs] at q
    exact q
  have hvl : vs.length ≤ sizeLine := by
    rw [pm.length_eq, List.length_map, Array.length_toList]
    exact fits_of_scanBound hsz
  refine wpAny_bind (wpAny_newList ?_ hvl)
  have hoL : (s1.heap.push (seqObj "list" vs.toArray 0)).get? s1.heap.objs.size = some (seqObj "list" vs.toArray 0) := Heap.get?_push_size _ rfl
  refine wpAny_bind (wpAny_holding (wpAny_call_entry slot_list_sort ⟨_, hoL, rfl⟩ entry_list_sort (SrtO.list_sort_ord SrtO.swo_str hoL hvl (fun h2 => SrtO.strs_sortable hzs h2) fun out hs hb => ⟨_, rfl, ?_⟩) (args_list_sort _)))
  obtain ⟨e1, e2, e3⟩ := SrtO.strs_out hzs hs hb
  obtain ⟨c, hc⟩ := sortedHeap_at (out := out.toArray) hoL
  refine wpAny_pure ⟨_, rfl, h _ s1.heap.objs.size out c _ (fun b o e => ?_) g1 o1 hz hc e1 (e2.trans (pz.trans pk)) e3⟩
  have k := k1 b o e
  have lt := Heap.lt_size k
  show (sortedHeap (s1.heap.push (seqObj "list" vs.toArray 0)) s1.heap.objs.size vs out.toArray).get? b = some o
  rw [sortedHeap_old (Nat.ne_of_lt lt) (by rw [size_push']; exact Nat.lt_succ_of_lt lt)]
  exact Heap.get?_push_of_some _ k
end
end StT
namespace Zk
open PySem PySem.Spec PyProof.Rows L2 GxR TL SX PySem.Froz
/-- a set of texts -/
def SetTO (P : Program) (w : World) (a : Addr) (l : List Str) : HO := .ext fun h => ∃ D, h.get? a = some (sObj "set" D) ∧ TxOk P w D l ∧ StT.Rises w D
section
variable {X : Cx}
theorem setTO_new {P : Program} {w : World} {H : Hp} {h : Heap} {a : Addr} {l : List Str} {D : SD} (ho : h.get? a = some (sObj "set" D)) (F : TxOk P w D l) (r : StT.Rises w D) : ObjOk P w H h a (SetTO P w a l) :=
  ⟨⟨D, ho, F, r⟩, ⟨_, ho⟩, fun h1 h2 ⟨D', e, q⟩ k => ⟨D', k _ e, q⟩⟩
def rSetT (X : Cx) : List V → Hp → VK → Prop := fun vs H Q => ∃ z : Str, vs = [V.str z] ∧ z.length ≤ 1000 ∧
  ∀ (l : List Str) (p : Addr), l.Nodup → l.length ≤ 1000 → (∀ k, k ∈ l ↔ ∃ c ∈ z.cps.toList, k = one c) → H p = none → Q (.ref p) (upd H p (SetTO X.prog X.w p l))
theorem cr_setT (hc : X.calm = true) : CallR X (.type "set") (rSetT X) := by
  intro pins s σ H vs us Q I r h
  obtain ⟨z, rfl, hz, q⟩ := h
  obtain ⟨u, rfl, t, rfl⟩ := vals1 r
  refine StT.call_set_text (I.ok.hd hc) (by rw [← str_len]; unfold scanBound; omega) fun h' tk D l g1 g2 g3 g4 g5 keep => ?_
  have ll : l.length ≤ 1000 := by
    have sub : ∀ k ∈ l, k ∈ z.cps.toList.map sing := fun k hk => by
      obtain ⟨c, hc, e⟩ := (g5 k).mp hk
      exact List.mem_map.mpr ⟨c, hc, e.symm⟩
    have := StT.len_le l _ g4 sub
    rw [List.length_map, ← str_len] at this
    omega
  exact ⟨.ref _, upd H s.heap.objs.size (SetTO X.prog X.w s.heap.objs.size l), I.laid (t' := tk) (fun b o e => keep b o e) (Nat.le_refl _) (setTO_new g1 g2 g3), rfl, q l _ g4 ll g5 (I.hok.fresh (Nat.le_refl _))⟩
def rSortedSetT (X : Cx) : List V → Hp → VK → Prop := fun vs H Q => ∃ (a : Addr) (l : List Str), vs = [V.ref a] ∧ H a = some (SetTO X.prog X.w a l) ∧ l.Nodup ∧ l.length ≤ 1000 ∧
  ∀ (ys : List Str) (p : Addr), ys.Perm l → sortedS ys = true → H p = none → Q (.ref p) (upd H p (.lst (ys.map V.str)))
theorem cr_sortedSetT (hc : X.calm = true) : CallR X (.builtin "sorted") (rSortedSetT X) := by
  intro pins s σ H vs us Q I r h
  obtain ⟨a, l, rfl, ha, nd, ll, q⟩ := h
  obtain ⟨u, rfl, hu⟩ := vals1 r
  obtain rfl : u = Value.ref a := hu
  obtain ⟨D, ho, F, ri⟩ := (I.hok a _ ha).1
  refine StT.sorted_text_set ho F ri nd (I.ok.hd hc) (by unfold scanBound; omega) fun s' p out c ys keep e1 e2 hp hl h1 h2 h3 => ?_
  have ln : (ys.map V.str).length ≤ sizeLine := by
    rw [List.length_map, h2.length_eq]
    exact Nat.le_trans ll (by decide)
  have hn := I.hok.fresh hp
  have J := I.call (ch := []) (h' := s'.heap) (g' := s'.gens) (d' := s'.drawn) (t' := s'.toks) (Un.laid keep hp hn) (I.hok.laid keep hp (o := .lst (ys.map V.str)) ⟨ln, out, c, vals_of_strs h1, hl⟩) (by rw [e1]; exact I.bare) (fun _ z => nomatch z)
  have es : s' = { s with heap := s'.heap, gens := s'.gens, drawn := s'.drawn, toks := s'.toks } := by
    cases s' with
    | mk a1 a2 a3 a4 a5 =>
      cases e2
      rfl
  rw [es]
  exact ⟨.ref p, _, J, rfl, q ys p h2 h3 hn⟩
/-- sorted(set(e)) -/
@[simp] def rSortSet (r : DR) : DR := fun E q => r E fun d => ∃ z : Str, d = .str z ∧ z.length ≤ 1000 ∧ ∀ ys : List Str, ys.Nodup → sortedS ys = true → ys.length ≤ 1000 → (∀ k, k ∈ ys ↔ ∃ c ∈ z.cps.toList, k = one c) → q (.list (ys.map PyData.str))
variable {Ta : List Addr} {nm : Str} {e : Expr} {r : DR} {p p2 pos pos2 : Pos}
theorem dx_sortSet (hc : X.calm = true) (hg : Gl X "sorted") (hm : X.mg "sorted" = none) (hg2 : Gl X "set") (hm2 : X.mg "set" = none) (h : PE X e (tD Ta nm r))
    (h1 : starEach [e] X.env = (false, eval e X.env) :: starEach [] X.env := by rfl) (h2 : (backTo pos2 (starEach [] X.env)).any (·.1) = false := by rfl)
    (h3 : starEach [.Call (.Name "set" p2) [e] [] pos2] X.env = (false, eval (.Call (.Name "set" p2) [e] [] pos2) X.env) :: starEach [] X.env := by rfl) (h4 : (backTo pos (starEach [] X.env)).any (·.1) = false := by rfl) :
    PE X (.Call (.Name "sorted" p) [.Call (.Name "set" p2) [e] [] pos2] [] pos) (tD Ta nm (rSortSet r)) :=
  PE.weak (pe_callB (cr_sortedSetT hc) hg hm (by decide +kernel) (pa_cons (pe_callTy (cr_setT hc) hg2 hm2 (by decide +kernel) (pa_cons h pa_nil h1) (he := h1) (hpl := h2)) pa_nil h3) (he := h3) (hpl := h4)) fun σ H Q ⟨C, E, q, s, hr, k⟩ => ⟨C, E, _, s, hr, fun d v H1 g1 k1 sd ⟨z, ed, hz, hq⟩ => by
    subst ed
    refine ⟨z, by rw [sd_str sd], hz, fun l a nd ll mem ha => ⟨a, l, rfl, upd_same, nd, ll, fun ys p pm so hp => ?_⟩⟩
    have hp1 : H1 p = none := by
      by_cases y : p = a
      · rw [y]; exact ha
      · rw [upd_ne y] at hp; exact hp
    have g2 : Go C H1 (upd H1 a (SetTO X.prog X.w a l)) := Same.go (same_new ha _)
    have k2 := k1.same (same_new ha (SetTO X.prog X.w a l))
    have s2 := (s.step g1 k1).step g2 k2
    exact k _ _ _ ((g1.trans g2).trans (Same.go (same_new hp _))) (k2.same (same_new hp _)) (.lst (msk_at (s2.new hp)) (strs_sd ys)) (hq ys (pm.symm.nodup nd) so (by rw [pm.length_eq]; exact ll) fun k => pm.mem_iff.trans (mem k))⟩
end
end Zk

set_option maxHeartbeats 1000000
/-! V48: any data (dicts too) compared with a text, looked for among texts. -/
namespace DiS
open PySem PyProof.Rows SeqAt MeetsSeq
theorem eq_no (l : Addr) (es : Array DictEntry) (n : Nat) (dd : Option Addr) (sl : Array (Option Value)) (b : Str) (u : Tok) :
    Meets (Builtin.«dict.__eq__» ⟨[.ref l, .str b u], []⟩) (fun _ R s => s.heap.get? l = some { cls := .type "dict", dict := dd, data := .dict es n, slots := sl } ∧ R (.ok (.ret .notImplemented)) s) :=
  .of_wp fun prog w A R s h => by
    obtain ⟨hp, g, d, tk, os⟩ := s
    obtain ⟨hl, h⟩ := h
    have f1 := F.sub_str_dict
    wp_walk using wpAny_loadPart' hl
    exact ⟨_, rfl, h⟩
theorem ne_no (l : Addr) (es : Array DictEntry) (n : Nat) (dd : Option Addr) (sl : Array (Option Value)) (b : Str) (u : Tok) :
    Meets (Builtin.«dict.__ne__» ⟨[.ref l, .str b u], []⟩) (fun _ R s => s.heap.get? l = some { cls := .type "dict", dict := dd, data := .dict es n, slots := sl } ∧ R (.ok (.ret .notImplemented)) s) :=
  .of_wp fun prog w A R s h => by
    obtain ⟨hp, g, d, tk, os⟩ := s
    obtain ⟨hl, h⟩ := h
    have f1 := F.sub_str_dict
    wp_walk using wpAny_loadPart' hl
    exact ⟨_, rfl, h⟩
theorem str_eq_no (b : Str) (u : Tok) (l : Addr) (es : Array DictEntry) (n : Nat) (dd : Option Addr) (sl : Array (Option Value)) :
    Meets (Builtin.«str.__eq__» ⟨[.str b u, .ref l], []⟩) (fun _ R s => s.heap.get? l = some { cls := .type "dict", dict := dd, data := .dict es n, slots := sl } ∧ R (.ok (.ret .notImplemented)) s) :=
  .of_wp fun prog w A R s h => by
    obtain ⟨hp, g, d, tk, os⟩ := s
    obtain ⟨hl, h⟩ := h
    wp_walk using wpAny_loadPart' hl, wpAny_load hl
    exact ⟨_, rfl, h⟩
theorem str_ne_no (b : Str) (u : Tok) (l : Addr) (es : Array DictEntry) (n : Nat) (dd : Option Addr) (sl : Array (Option Value)) :
    Meets (Builtin.«str.__ne__» ⟨[.str b u, .ref l], []⟩) (fun _ R s => s.heap.get? l = some { cls := .type "dict", dict := dd, data := .dict es n, slots := sl } ∧ R (.ok (.ret .notImplemented)) s) :=
  .of_wp fun prog w A R s h => by
    obtain ⟨hp, g, d, tk, os⟩ := s
    obtain ⟨hl, h⟩ := h
    wp_walk using wpAny_loadPart' hl, wpAny_load hl
    exact ⟨_, rfl, h⟩
section
variable {A : Around} {s : Shared} {l : Addr} {o : Obj} {es : Array DictEntry} {n : Nat}
theorem ne_dict_str (b : Str) (u : Tok) (ho : s.heap.get? l = some o) (hc : o.cls = .type "dict") (hd : o.data = .dict es n) (hu : A.units < cLine) : RcNeAt A s (.ref l) (.str b u) true := fun prog w E Q h => by
  obtain ⟨cls, dd, data, sl⟩ := o
  cases hc
  cases hd
  exact rc_ne_decline_or (k := false) (Ta := "dict") (Tb := "str") ⟨_, ho, rfl⟩ (typeIs_str s b u) (by decide) F.sub_str_dict F.slot_dict_ne F.slot_str_ne_refl
    (fun _ hq => call_meets F.slot_dict_ne ⟨_, ho, rfl⟩ F.entry_dict_ne (F.args_dict_ne_2 _ _) (ne_no l es n dd sl b u) ⟨ho, hq⟩)
    (fun _ hq => call_meets F.slot_str_ne_refl (typeIs_str s b u) F.entry_str_ne (F.args_str_ne_2 _ _) (str_ne_no b u l es n dd sl) ⟨ho, hq⟩)
    (fun _ hq => wpAny_of_eq (rfl : isSame (.ref l) (.str b u) = pure false) hq) (.inr hu) h
theorem eq_str_dict (b : Str) (u : Tok) (ho : s.heap.get? l = some o) (hc : o.cls = .type "dict") (hd : o.data = .dict es n) (hu : A.units < cLine) : EqAt A s (.str b u) (.ref l) false := fun prog w E Q h => by
  obtain ⟨cls, dd, data, sl⟩ := o
  cases hc
  cases hd
  unfold eqBool
  refine wpAny_holding (wpAny_ite_split (fun q => absurd (eq_of_beq q) nofun) fun _ => wpAny_bind ?_)
  exact rc_eq_decline_or (k := false) (Ta := "str") (Tb := "dict") (typeIs_str s b u) ⟨_, ho, rfl⟩ (by decide) F.sub_dict_str F.slot_str_eq F.slot_dict_eq_refl
    (fun _ hq => call_meets F.slot_str_eq (typeIs_str s b u) F.entry_str_eq (F.args_str_eq_2 _ _) (str_eq_no b u l es n dd sl) ⟨ho, hq⟩)
    (fun _ hq => call_meets F.slot_dict_eq_refl ⟨_, ho, rfl⟩ F.entry_dict_eq (F.args_dict_eq_2 _ _) (eq_no l es n dd sl b u) ⟨ho, hq⟩)
    (fun _ hq => wpAny_of_eq (rfl : isSame (.str b u) (.ref l) = pure false) hq) (.inr hu) (wpAny_truthy_bool h)
end
end DiS
namespace Zk
open PySem PySem.Spec PyProof.Rows L2 GxR TL SX
/-- whether data are this text -/
def isT (z : Str) : PyData → Bool
  | .str y => y == z
  | _ => false
section
variable {X : Cx}
def rNeT : R2 := fun x y H Q => ∃ d z, Sd H x d ∧ y = .str z ∧ Q (.bl (!isT z d)) H
theorem op_neT (S : SysB X.base) (hu : X.A.units < cLine) : OpR X (compareOp .NotEq) rNeT := by
  intro pins s σ H x y v u Q I rx ry h
  obtain ⟨d, z, hd, rfl, q⟩ := h
  obtain ⟨t, rfl⟩ := ry
  obtain ⟨as, r1, _⟩ := hd.reads I S rx
  have go : ∀ b : Bool, b = (!isT z d) → SeqAt.RcNeAt X.A s v (.str z t) b → wpAny (model X.prog X.w) X.A (compareOp .NotEq v (.str z t)) (EP X pins σ Q) X.xe s := fun b e r => r X.prog X.w X.xe _ ⟨.bl b, H, I, rfl, by rw [e]; exact q⟩
  cases r1 with
  | none => exact go _ rfl (SeqAt.RcNeAt.none_str z t)
  | bool b => exact go _ rfl (SeqAt.RcNeAt.bool_str b z t)
  | int i k => exact go _ rfl (SeqAt.RcNeAt.int_str i k z t)
  | str y k => exact go _ rfl (SeqAt.RcNeAt.str_str y k z t)
  | list h1 h2 h3 _ => exact go _ rfl (SeqAt.RcNeAt.list_str z t ⟨_, h1, h2, _, h3⟩ hu)
  | tuple h1 h2 h3 _ => exact go _ rfl (SeqAt.RcNeAt.tuple_str z t ⟨_, h1, h2, _, h3⟩ hu)
  | dict h1 h2 h3 _ _ => exact go _ rfl (DiS.ne_dict_str z t h1 h2 h3 hu)
@[simp] def gNeT : DG2 := fun d e q => ∃ z, e = .str z ∧ q (.bool (!isT z d))
theorem opS_neT : OpS rNeT gNeT := fun Z H x y d e q Q _ hx hy ⟨z, e1, hq⟩ k => by
  subst e1
  exact ⟨d, z, hx.un, sd_str hy, k _ _ H (Same.refl _) (.bl _) hq⟩
def rInT (n : Bool) : R2 := fun x y H Q => ∃ (d : PyData) (zs : List Str), Sd H x d ∧ Sd H y (.list (zs.map PyData.str)) ∧ Q (.bl (n != zs.any fun z => isT z d)) H
theorem at_str {A : Around} {s : Shared} {v : Value} {d : PyData} {as : List Addr} (r : Reads s.heap v d as) (z : Str) (t : Tok) (hu : A.units < cLine) : SeqAt.EqAt A s (.str z t) v (isT z d) := by
  have flip : ∀ y : Str, (z == y) = (y == z) := fun y => Bool.beq_comm
  cases r with
  | none => exact SeqAt.EqAt.str_none z t
  | bool b => exact SeqAt.EqAt.str_bool z t b
  | int i k => exact SeqAt.EqAt.str_int z t i k
  | str y k =>
    show SeqAt.EqAt A s _ _ (y == z)
    rw [← flip]
    exact SeqAt.EqAt.str_str z t y k
  | list h1 h2 h3 _ => exact SeqAt.EqAt.str_list z t ⟨_, h1, h2, _, h3⟩ hu
  | tuple h1 h2 h3 _ => exact SeqAt.EqAt.str_tuple z t ⟨_, h1, h2, _, h3⟩ hu
  | dict h1 h2 h3 _ _ => exact DiS.eq_str_dict z t h1 h2 h3 hu
theorem strs_read {h : Heap} : ∀ {zs : List Str} {vs : List Value} {bs : List Addr}, ReadsAll h vs (zs.map PyData.str) bs → StrsAre vs zs
  | [], _, _, r => by cases r; exact .nil
  | z :: zs, _, _, r => by
    cases r with
    | cons r1 r2 =>
      cases r1
      exact .cons _ _ (strs_read r2)
theorem op_inT (S : SysB X.base) (hu : X.A.units + 1 < cLine) : OpR X (compareOp .In) (rInT false) := by
  intro pins s σ H x y v u Q I rx ry h
  obtain ⟨d, zs, hd, he, q⟩ := h
  obtain ⟨as, r1, _⟩ := hd.reads I S rx
  obtain ⟨bs, r2, _⟩ := he.reads I S ry
  cases r2 with
  | @list a o vs n _ bs h1 h2 h3 h4 =>
    have st := strs_read h4
    refine SeqAt.in_listAt (fun y => isT (strOf y) d) ⟨_, h1, h2, _, h3⟩ (fun y hy => ?_) ⟨.bl _, H, I, rfl, ?_⟩
    · obtain ⟨z, t, rfl⟩ := st.all y (by simpa using hy)
      exact at_str r1 z t hu
    · have e : (vs.any fun y => isT (strOf y) d) = zs.any fun z => isT z d := by
        rw [← st.strs, List.any_map, ← Array.any_toList]
        rfl
      rw [e]
      simpa using q
@[simp] def gInT (n : Bool) : DG2 := fun d e q => ∃ zs : List Str, e = .list (zs.map PyData.str) ∧ q (.bool (n != zs.any fun z => isT z d))
theorem opS_inT (n : Bool) : OpS (rInT n) (gInT n) := fun Z H x y d e q Q _ hx hy ⟨zs, e1, hq⟩ k => by
  subst e1
  exact ⟨d, zs, hx.un, hy.un, k _ _ H (Same.refl _) (.bl _) hq⟩
end
end Zk

set_option maxHeartbeats 1000000
/-! V49: -b of a bool; rows that rise. -/
namespace Zk
open PySem PySem.Spec PyProof.Rows L2 GxR TL SX
section
variable {X : Cx} {Ta : List Addr} {nm : Str} {a : Expr} {r : DR} {pos : Pos}
theorem neg_bool_gives (b : Bool) : Gives (Builtin.«int.__neg__» ⟨[.bool b], []⟩) (.int (-(if b = true then 1 else 0))) := .of_eq (by cases b <;> rfl)
def rNumU : V → Hp → VK → Prop := fun x H Q => ∃ i, numV x = some i ∧ Q (.int (-i)) H
theorem un_negB : UnR X (unaryOp .USub) rNumU := by
  intro pins s σ H x v Q I rx h
  obtain ⟨i, e, q⟩ := h
  cases x with
  | int j =>
    cases e
    obtain ⟨t, rfl⟩ := rx
    exact PyProof.Rows.neg_int ⟨.int _, H, I.tok _, ⟨_, rfl⟩, q⟩
  | bl b =>
    cases e
    cases rx
    exact unaryOp_gives (op := .USub) (T := "bool") rfl rfl PySem.F.slot_bool_neg PySem.F.entry_int_neg (PySem.F.args_int_neg_1 _) (neg_bool_gives b) ⟨.int _, H, I.tok _, ⟨_, rfl⟩, q⟩
  | _ => cases e
@[simp] def rNegB (r : DR) : DR := fun E q => r E fun d => ∃ i, numD d = some i ∧ q (.int (-i))
theorem dx_negB (h : PE X a (tD Ta nm r)) : PE X (.UnaryOp .USub a pos) (tD Ta nm (rNegB r)) := PE.weak (pe_un un_negB h) fun σ H Q ⟨C, E, q, s, hr, k⟩ =>
  ⟨C, E, _, s, hr, fun d v H1 g1 k1 sd ⟨i, e, hq⟩ => ⟨i, num_v sd e, k _ _ H1 g1 k1 (.int _) hq⟩⟩
end
/-- each less than the next one -/
theorem rise_iff {α : Type} {R : α → α → Prop} (tr : ∀ a b c, R a b → R b c → R a c) (l : List α) : (∀ (i : Nat) (h : i + 1 < l.length), R l[i] l[i + 1]) ↔ l.Pairwise R := by
  rw [List.pairwise_iff_getElem]
  constructor
  · intro h
    have go : ∀ (k i : Nat) (h1 : i + 1 + k < l.length), R l[i] l[i + 1 + k] := fun k => by
      induction k with
      | zero => exact fun i h1 => h i h1
      | succ k ih => exact fun i h1 => tr _ _ _ (ih i (by omega)) (h (i + 1 + k) (by omega))
    intro i j hi hj hij
    have := go (j - i - 1) i (by omega)
    have e : i + 1 + (j - i - 1) = j := by omega
    simpa only [e] using this
  · intro h i h1
    exact h i (i + 1) (by omega) h1 (by omega)
end Zk

set_option maxHeartbeats 1000000
/-! V50: sorted(x.items()) of an own dict of ints, bit_length, tuples that are known to be plain, dict(t) of such a tuple. -/
namespace Zk
open PySem PySem.Spec PyProof.Rows L2 GxR TL SX
open L2.DX (itemsO itemsO_ok takeT)
/-- tuples (i, j) at ts, new ones -/
def PTf (H0 H : Hp) : List V → List IP → Prop := Paired fun v e => ∃ t, v = .ref t ∧ H0 t = none ∧ H t = some (.tup [.int e.1, .int e.2])
/-- sorted(d.items()), keys and values ints; the pairs are new -/
def rSortIIf : List V → Hp → VK → Prop := fun vs H Q => ∃ (p a : Addr) (es : List IP), vs = [.ref p] ∧ H p = some (itemsO p a) ∧ H a = some (.dK (dI es)) ∧
  ∀ (ys : List IP) (H' : Hp) (l : Addr) (ts : List V), ys.Perm es → ys.Pairwise (fun x y => SrtO.lexB y x = false) → Same H H' → H l = none → H' l = some (.lst ts) → PTf H H' ts ys → Q (.ref l) H'
section
variable {X : Cx}
theorem cr_sortedIIf (hc : X.calm = true) : CallR X (.builtin "sorted") rSortIIf := by
  intro pins s σ H xs us Q I r h
  obtain ⟨p, a, es, rfl, hp, ha, q⟩ := h
  obtain rfl := Vals.ref1 r
  have view : s.heap.IsItemsView p a := (show ObjOk X.prog X.w H s.heap p (itemsO p a) from I.hok p _ hp).1
  obtain ⟨lo, z, ent, ep, vs, raw, rel, hpr⟩ := raw_of I ha
  obtain ⟨le, hat⟩ := kv_dI rel hpr
  have les : ent.size = es.length := by rw [← Array.length_toList]; exact le
  have zes : es.length ≤ sizeLine := by simpa [dI] using z
  refine DT.sortedI (es := ent) (ep := ep) (I.ok.hd hc) view raw (by rw [les]; exact zes) fun h' tk as hk hlt hl hG => ?_
  have lak : as.length = es.length := hl.trans les
  have nd : as.Nodup := List.Pairwise.imp (fun h => Nat.ne_of_lt h) hG.rise
  -- the pairs that were made
  have pr : ∀ (j : Nat) (b : Addr), as[j]? = some b → ∃ (e : IP) (t u : Tok), es[j]? = some e ∧ h'.get? b = some { cls := .type "tuple", data := .seq #[Value.int e.1 t, Value.int e.2 u] } := by
    intro j b hj
    obtain ⟨en, he, hg⟩ := hG.pairs j b hj
    have hjl : j < es.length := by
      have := (List.getElem?_eq_some_iff.mp hj).1
      omega
    obtain ⟨en', t, u, e1, e2, e3⟩ := hat j es[j] (List.getElem?_eq_getElem hjl)
    have : en' = en := by
      rw [← Array.getElem?_toList] at he
      exact Option.some.inj (e1.symm.trans he)
    subst this
    exact ⟨es[j], t, u, List.getElem?_eq_getElem hjl, by rw [hg, e2, e3]⟩
  have hob : (h'.push { cls := .type "list", data := .seq (as.map Value.ref).toArray }).get? h'.objs.size = some (seqObj "list" (as.map Value.ref).toArray 0) := Heap.get?_push_size _ rfl
  have ne0 : ∀ b o, h'.get? b = some o → b ≠ h'.objs.size := fun b o e => Nat.ne_of_lt (Heap.lt_size e)
  generalize hh2 : h'.push { cls := .type "list", data := .seq (as.map Value.ref).toArray } = h2 at hob ⊢
  have ka : ∀ b o, h'.get? b = some o → h2.get? b = some o := fun b o e => by rw [← hh2]; exact Heap.get?_push_of_some _ e
  have kb : ∀ b o, s.heap.get? b = some o → h2.get? b = some o := fun b o e => ka b o (hk b o e)
  have isP : ∀ v ∈ as.map Value.ref, ∃ (j : Nat) (b : Addr) (e : IP), v = .ref b ∧ as[j]? = some b ∧ es[j]? = some e ∧ Srt.IsPair h2 v e.1 e.2 := fun v hv => by
    obtain ⟨b, hb, rfl⟩ := List.mem_map.mp hv
    obtain ⟨j, hj⟩ := List.mem_iff_getElem?.mp hb
    obtain ⟨e, t, u, he, hg⟩ := pr j b hj
    exact ⟨j, b, e, rfl, hj, he, b, _, t, u, 0, rfl, ka _ _ hg, rfl, rfl⟩
  have isK : ∀ v ∈ as.map Value.ref, Srt.IsPair h2 v (pairOf h2 v).1 (pairOf h2 v).2 := fun v hv => by
    obtain ⟨_, _, e, _, _, _, hp⟩ := isP v hv
    rw [pairOf_of hp]
    exact hp
  have mapK : (as.map Value.ref).map (pairOf h2) = es := by
    apply List.ext_getElem?
    intro j
    by_cases hj : j < as.length
    · have h1 : as[j]? = some as[j] := List.getElem?_eq_getElem hj
      obtain ⟨e, t, u, he, hg⟩ := pr j _ h1
      rw [List.getElem?_map, List.getElem?_map, h1, he]
      show some (pairOf h2 (.ref as[j])) = _
      rw [pairOf_of ⟨as[j], _, t, u, 0, rfl, ka _ _ hg, rfl, rfl⟩]
    · rw [List.getElem?_eq_none (by simpa using hj), List.getElem?_eq_none (by omega)]
  refine wpAny_call_entry PyProof.Rows.slot_list_sort ⟨_, hob, rfl⟩ PyProof.Rows.entry_list_sort
    (SrtO.list_sort_ord (s := { s with heap := h2, toks := tk }) (SrtO.swo_lex (pairOf h2)) hob (by rw [List.length_map, lak]; exact zes)
      (fun h2' => SrtO.pairs_sortableO (s := { s with heap := h2, toks := tk }) (by omega) isK fun o e c => ?_) fun out o1 o2 => ⟨.none, rfl, ?_⟩) (PyProof.Rows.args_list_sort _)
  · have e : h2.get? h'.objs.size = some o := e
    rw [hob] at e
    cases e
    exact absurd (Value.type.inj c) (by decide)
  · show EP X pins σ Q (.ref h'.objs.size) { s with heap := sortedHeap h2 h'.objs.size (as.map Value.ref) out.toArray, toks := tk }
    have kF : ∀ b o, b ≠ h'.objs.size → h2.get? b = some o → (sortedHeap h2 h'.objs.size (as.map Value.ref) out.toArray).get? b = some o := fun b o hb e => (PyProof.Rows.sortedHeap_old hb (Heap.lt_size e)).trans e
    have kS : ∀ b o, s.heap.get? b = some o → (sortedHeap h2 h'.objs.size (as.map Value.ref) out.toArray).get? b = some o := fun b o e => kF b o (ne0 _ _ (hk b o e)) (kb b o e)
    obtain ⟨eF, heF⟩ := PyProof.Rows.sortedHeap_at (vs := as.map Value.ref) (out := out.toArray) hob
    have I1 : Inv X pins σ H { s with heap := sortedHeap h2 h'.objs.size (as.map Value.ref) out.toArray, toks := tk } := I.kept (t' := tk) kS
    have hn0 : H h'.objs.size = none := I.hok.fresh (Nat.le_of_lt hlt)
    have perm := o2.perm
    have lout : out.length = es.length := by rw [perm.length_eq, List.length_map, lak]
    have ref : ∀ v ∈ out, ∃ (j : Nat) (b : Addr) (e : IP), v = .ref b ∧ as[j]? = some b ∧ es[j]? = some e ∧ Srt.IsPair h2 v e.1 e.2 := fun v hv => isP v (perm.mem_iff.mp hv)
    have I2 : Inv X pins σ (upd H h'.objs.size (.lst (out.map backV))) { s with heap := sortedHeap h2 h'.objs.size (as.map Value.ref) out.toArray, toks := tk } :=
      I1.take (h' := sortedHeap h2 h'.objs.size (as.map Value.ref) out.toArray) (t' := tk) (fun b ob _ e => e) (I.fpOk (Nat.le_of_lt hlt) hn0) ⟨by rw [List.length_map, lout]; exact zes, out, eF, vals_back fun v hv => let ⟨_, b, _, e, _⟩ := ref v hv; ⟨b, e⟩, heF⟩
    obtain ⟨H2, I3, g, qt⟩ := takeT (P := fun b vs => ∃ (j : Nat) (e : IP), as[j]? = some b ∧ es[j]? = some e ∧ vs = [.int e.1, .int e.2]) I as _ I2 nd fun b hb => by
      obtain ⟨j, hj⟩ := List.mem_iff_getElem?.mp hb
      obtain ⟨e, t, u, he, hg⟩ := pr j b hj
      have hbl : s.heap.objs.size ≤ b := Nat.le_of_lt (hG.above b hb)
      refine ⟨hbl, ?_, [.int e.1, .int e.2], ⟨j, e, hj, he, rfl⟩, fun H3 => ⟨(by rw [sizeLine_eq]; show 2 ≤ 16777216; omega), [Value.int e.1 t, Value.int e.2 u], .cons ⟨t, rfl⟩ (.cons ⟨u, rfl⟩ .nil), ⟨_, kF _ _ (ne0 _ _ hg) (ka _ _ hg), rfl, 0, rfl⟩⟩⟩
      rw [upd_ne (ne0 _ _ hg)]
      exact I.hok.fresh hbl
    have gr : ∀ b o, H b = some o → H2 b = some o := fun b o e => g b o (by rw [upd_ne (ne_of_none e hn0)]; exact e)
    have pm : (out.map (pairOf h2)).Perm es := by
      have := perm.map (pairOf h2)
      rw [mapK] at this
      exact this
    refine ⟨.ref h'.objs.size, H2, I3, rfl, q (out.map (pairOf h2)) H2 h'.objs.size (out.map backV) pm (List.pairwise_map.mpr o1) gr hn0 (g _ _ upd_same) ?_⟩
    have all : ∀ l : List Value, (∀ v ∈ l, v ∈ out) → PTf H H2 (l.map backV) (l.map (pairOf h2)) := fun l => by
      induction l with
      | nil => exact fun _ => .nil
      | cons v l ih =>
        intro hm
        refine .cons ?_ (ih fun u hu => hm u (List.mem_cons_of_mem _ hu))
        obtain ⟨j, b, e, rfl, hj, he, hpp⟩ := ref v (hm v List.mem_cons_self)
        obtain ⟨vs', ⟨j', e', j1, j2, ev⟩, hH⟩ := qt b (List.mem_of_getElem? hj)
        have eij : j = j' := (List.getElem?_inj (List.getElem?_eq_some_iff.mp hj).1 nd).mp (hj.trans j1.symm)
        subst eij
        have ee : e' = e := Option.some.inj (j2.symm.trans he)
        subst ee
        rw [pairOf_of hpp]
        exact ⟨b, rfl, I.hok.fresh (Nat.le_of_lt (hG.above b (List.mem_of_getElem? hj))), by rw [hH, ev]⟩
    exact all out fun v hv => hv
end
section
variable {X : Cx} {Ta : List Addr} {nm : Str} {e : Expr} {r : DR} {x : Str} {p p2 pos pos2 apos : Pos} {i : Nat}
def kvI (es : List IP) : List (Key × PyData) := es.map fun e => (.inl e.1, .int e.2)
def prD (e : IP) : PyData := .tuple [.int e.1, .int e.2]
theorem sdks_dI {M : Hp} : ∀ {es : List IP} {ks : List (Key × V)}, SdKs M ks (kvI es) → ks = dI es
  | [], _, .nil => rfl
  | e :: es, _, .cons (a := k) h t => by
    obtain ⟨h1, h2⟩ := h
    have e1 := sd_int h2
    have e2 := sdks_dI (es := es) t
    obtain ⟨k1, k2⟩ := k
    have h1 : k1 = .inl e.1 := h1
    have e1 : k2 = .int e.2 := e1
    subst h1 e1
    rw [e2]
    rfl
theorem pt_sdl {H0 H M : Hp} (h : ∀ b vs, H0 b = none → H b = some (.tup vs) → M b = some (.tup vs)) : ∀ {ts : List V} {es : List IP}, PTf H0 H ts es → SdL M ts (es.map prD)
  | _, _, .nil => .nil
  | _, _, .cons ⟨t, e, n, ht⟩ r => by
    subst e
    exact .cons (.tup (h _ _ n ht) (.cons (.int _) (.cons (.int _) .nil))) (pt_sdl h r)
@[simp] def rSortItems (i : Nat) : DR := fun E q => ∃ es : List IP, E[i]? = some (.dic (kvI es)) ∧ es.length ≤ sizeLine ∧ ∀ ys : List IP, ys.Perm es → ys.Pairwise (fun x y => SrtO.lexB y x = false) → q (.list (ys.map prD))
theorem dx_sortItems (hc : X.calm = true) (hg : Gl X "sorted") (hm : X.mg "sorted" = none) (hx : PE X (.Name x p) (tVar i))
    (hbase : attributeBase (.Name x p) "items" X.env (eval (.Name x p) X.env) = eval (.Name x p) X.env := by rfl) (hline : (apos.endLine == pos2.line) = true := by rfl)
    (h1 : starEach [.Call (.Attribute (.Name x p) "items" apos) [] [] pos2] X.env = (false, eval (.Call (.Attribute (.Name x p) "items" apos) [] [] pos2) X.env) :: starEach [] X.env := by rfl) (h2 : (backTo pos (starEach [] X.env)).any (·.1) = false := by rfl) :
    PE X (.Call (.Name "sorted" p2) [.Call (.Attribute (.Name x p) "items" apos) [] [] pos2] [] pos) (tD Ta nm (rSortItems i)) :=
  PE.weak (pe_callB (cr_sortedIIf hc) hg hm (by decide +kernel) (pa_cons (pe_bm0 PySem.F.plainAttrs_dict PySem.F.slot_dict_items PySem.F.type_dict_items mt_itemsK hx hbase hline) pa_nil h1) (he := h1) (hpl := h2)) fun σ H Q ⟨C, E, q, s, ⟨es, hx, hl, hq⟩, k⟩ => by
    obtain ⟨a, ks, ho, ha, sk, n0, n1⟩ := ownD_at s hx
    obtain rfl := sdks_dI sk
    refine ⟨_, ho, .inr (.inr (.inl ⟨rfl, .inl ⟨_, ha⟩⟩)), a, _, rfl, rfl, ha, fun v1 hv1 => ?_⟩
    refine ⟨v1, a, es, rfl, upd_same, same_new hv1 _ _ _ ha, fun ys H' l us hp hs sm hl hus ht' => ?_⟩
    have g1 : Same H H' := (same_new hv1 _).trans sm
    have s2 := s.step (Same.go g1) (s.ok.same g1)
    have nn : ∀ b, (upd H v1 (itemsO v1 a)) b = none → ¬ Zof C σ E b := fun b hb => s.new (by
      by_cases y : b = v1
      · rw [y]; exact hv1
      · rw [upd_ne y] at hb; exact hb)
    exact k _ _ H' (Same.go g1) (s.ok.same g1) (.lst (msk_some.mpr ⟨nn l hl, hus⟩) (pt_sdl (fun b vs n e => msk_some.mpr ⟨nn b n, e⟩) ht')) (hq ys hp hs)
end
/-! ### bit_length -/
section
variable {X : Cx} {Ta : List Addr} {nm : Str} {o : Expr} {r : DR} {pos apos : Pos}
@[simp] def rBits (r : DR) : DR := fun E q => r E fun d => ∃ i, d = .int i ∧ q (.int (Builtin.Int.intBits i : Nat))
theorem dx_bits (ho : PE X o (tD Ta nm r)) (hbase : attributeBase o "bit_length" X.env (eval o X.env) = eval o X.env := by rfl) (hline : (apos.endLine == pos.line) = true := by rfl) : PE X (.Call (.Attribute o "bit_length" apos) [] [] pos) (tD Ta nm (rBits r)) :=
  PE.weak (pe_bits ho hbase hline) fun σ H Q ⟨C, E, q, s, hr, k⟩ => ⟨C, E, _, s, hr, fun d v H1 g1 k1 sd ⟨i, ed, hq⟩ => by
    subst ed
    exact ⟨i, sd_int sd, k _ _ H1 g1 k1 (.int _) hq⟩⟩
end
/-! ### plain tuples -/
/-- a tuple of which nothing but its items is told -/
def PF (H : Hp) (a : Addr) (xs : List V) : Prop := ∃ its : List Value, H a = some (.frz { cls := .type "tuple", data := .seq its.toArray } (.tup xs))
section
variable {X : Cx} {pins : List (Addr × Obj)} {σ : L2.St} {H : Hp} {s : Shared}
theorem PF.of (I : Inv X pins σ H s) {a : Addr} {xs : List V} (h : PF H a xs) : ∃ its : List Value, s.heap.get? a = some { cls := .type "tuple", data := .seq its.toArray } ∧ Vals xs its ∧ xs.length ≤ sizeLine := by
  obtain ⟨its, h⟩ := h
  obtain ⟨e, hz, its', rv, o, ho, hc, n, hd⟩ := I.hok a _ h
  rw [e] at ho
  cases ho
  injection hd with h1 _
  have : its = its' := by simpa using congrArg Array.toList h1
  subst this
  exact ⟨its, e, rv, hz⟩
theorem call_tuple_fz : CallR X (.type "tuple") (fun xs H Q => ∃ p ys, xs = [.ref p] ∧ SqL X.K H p ys ∧ ∀ l its, H l = none → Q (.ref l) (upd H l (.frz { cls := .type "tuple", data := .seq (its : List Value).toArray } (.tup ys)))) := by
  intro pins s σ H xs us Q I r h
  obtain ⟨p, ys, rfl, hq, q⟩ := h
  obtain ⟨u, rfl, rx⟩ := vals1 r
  cases rx
  obtain ⟨its, r', pl, hz⟩ := I.list hq
  have hlen := r'.length
  refine call_tuple_list pl.isList (fun h' kp => ?_) (by simp only [List.size_toArray] <;> omega)
  have I1 : Inv X pins σ H { s with heap := h' } := I.kept (t' := s.toks) kp
  have I2 : Inv X pins σ (upd H h'.objs.size (.frz { cls := .type "tuple", data := .seq its.toArray } (.tup ys))) { s with heap := h'.push { cls := .type "tuple", data := .seq its.toArray } } :=
    I1.laid (t' := s.toks) (fun b o e => Heap.get?_push_of_some _ e) (Nat.le_refl _) (show ObjOk X.prog X.w _ _ _ (.frz _ (.tup ys)) from ⟨Heap.get?_push_size _ rfl, hz, its, r', IsTup.new _ _⟩)
  exact ⟨.ref h'.objs.size, _, I2, rfl, q _ _ (I1.hok.fresh (Nat.le_refl _))⟩
theorem pairs_of2 (I : Inv X pins σ H s) : ∀ {ps : List Addr} {kvs : List (Key × V)}, Paired (fun p kv => SqT X.K H p [kV kv.1, kv.2]) ps kvs →
    ∃ (prs : List (Key × Value)) (us : List (Value × Value)), KV kvs prs ∧ prs.length = ps.length ∧ us.length = ps.length ∧ ∀ (j : Nat) (k v : Value), us[j]? = some (k, v) → ∃ (b : Addr) (q : Key), ps[j]? = some b ∧ prs[j]? = some (q, v) ∧ IsTup s.heap b #[k, v] ∧ keyIs q k = true
  | _, _, .nil => ⟨[], [], .nil, rfl, rfl, fun j k v e => by simp at e⟩
  | _, _, .cons (a := p) (b := kv) h t => by
    obtain ⟨prs, us, r, hl, hl2, hp⟩ := pairs_of2 I t
    obtain ⟨its, rv, ht, _⟩ := I.tuple h
    obtain ⟨u, y, ei, ru, ry⟩ := vals2 rv
    subst ei
    refine ⟨(kv.1, y) :: prs, (u, y) :: us, .cons ⟨rfl, ry⟩ r, by rw [List.length_cons, List.length_cons, hl], by rw [List.length_cons, List.length_cons, hl2], fun j k v e => ?_⟩
    cases j with
    | zero =>
      have e' : (u, y) = (k, v) := Option.some.inj e
      cases e'
      exact ⟨p, kv.1, rfl, rfl, ht, kV_is (P := X.prog) (w := X.w) ru⟩
    | succ j =>
      obtain ⟨b, q, e1, e2, e3, e4⟩ := hp j k v (by simpa using e)
      exact ⟨b, q, by simpa using e1, by simpa using e2, e3, e4⟩
/-- dict(t) of a plain tuple of pairs (key, value) -/
theorem call_dictF (hcalm : X.calm = true) : CallR X (.type "dict") (fun xs H Q => ∃ (a : Addr) (ps : List Addr) (kvs : List (Key × V)), xs = [.ref a] ∧ PF H a (ps.map V.ref) ∧ Paired (fun p kv => SqT X.K H p [kV kv.1, kv.2]) ps kvs ∧
    ∀ p, H p = none → Q (.ref p) (upd H p (.dK (mergeK [] kvs)))) := by
  intro pins s σ H xs us Q I r q
  obtain ⟨a, ps, kvs, ex, hq, hp, q⟩ := q
  subst ex
  obtain ⟨u, eu, rx⟩ := vals1 r
  subst eu
  cases rx
  obtain ⟨its, ho, rv, hz⟩ := hq.of I
  have ei := refs_at rv
  subst ei
  rw [List.length_map] at hz
  obtain ⟨prs, us, rel, hl, hl2, hpr⟩ := pairs_of2 I hp
  refine PySem.call_dict_pairs (knd := mixKind X.prog X.w) (kvs := prs) (PairArg.tuple a (ps.map Value.ref).toArray (fun j => ps.getD j 0) us) (I.ok.hd hcalm) ⟨⟨_, 0, ho, rfl, rfl, rfl⟩, by simp [hl2], fun j k v hj => ?_⟩ ⟨hl.trans hl2.symm, fun j k v hj => ?_⟩ (by rw [hl2]; exact hz) fun h' tk hd' keep => ?_
  · obtain ⟨b, q', e1, e2, e3, e4⟩ := hpr j k v hj
    have eb : ps.getD j 0 = b := by rw [List.getD_eq_getElem?_getD, e1]; rfl
    show _ = some (Value.ref (ps.getD j 0)) ∧ PairAt s.heap (ps.getD j 0) k v
    rw [eb]
    exact ⟨by simp [e1], .inl e3⟩
  · obtain ⟨b, q', e1, e2, e3, e4⟩ := hpr j k v hj
    exact ⟨q', e2, e4⟩
  · have hm : (s.heap.objs.size == sysModules) = false := beq_eq_false_iff_ne.mpr (Nat.ne_of_gt I.big)
    have hlen : (mergeK [] kvs).length ≤ sizeLine := by
      refine Nat.le_trans (length_mergeK kvs []) ?_
      rw [List.length_nil, Nat.zero_add, rel.length, hl]
      exact hz
    exact ⟨.ref s.heap.objs.size, upd H s.heap.objs.size (.dK (mergeK [] kvs)), I.laid (t' := tk) (fun b o e => keep b o (fun z => nomatch z) e) (Nat.le_refl _) (show ObjOk X.prog X.w _ _ _ (.dK (mergeK [] kvs)) from ⟨hlen, hm, merged [] prs, KV.merge rel .nil, hd'⟩), rfl, q _ (I.hok.fresh (Nat.le_refl _))⟩
end
/-- a new plain tuple is a tuple from now on -/
def tThaw (t : TE) : TE := fun σ H Q => t σ H fun v H' => ∃ (a : Addr) (xs : List V), v = .ref a ∧ PF H' a xs ∧ (∀ o u, H a ≠ some (.frz o u)) ∧ Q v (upd H' a (.tup xs))
theorem pe_thaw {X : Cx} {e : Expr} {t : TE} (h : PE X e t) : PE X e (tThaw t) := by
  refine ⟨fun pins s σ H Q I hw => ?_⟩
  refine thn (h.run pins s σ H _ I hw) fun v s1 ⟨x, H1, I2, r, q⟩ => ?_
  obtain ⟨a, xs, e1, ⟨its, e2⟩, e3, q⟩ := q
  refine ⟨x, _, I2.unlock e2 fun o' u' z => ?_, r, q⟩
  exact e3 _ _ (I.base.frzs a o' u' z)
/-- nothing stands there but a table -/
def NewA (H : Hp) (a : Addr) : Prop := ∀ o, H a = some o → ∃ ps, o = .tbl ps
theorem NewA.of {H : Hp} {a : Addr} (h : H a = none) : NewA H a := fun o e => by rw [h] at e; cases e
theorem NewA.sm {H H' : Hp} {a : Addr} (h : NewA H' a) (s : Sm H H') : NewA H a := fun o e => by
  by_cases z : ∀ ps, o ≠ .tbl ps
  · exact h o (s a o e z)
  · exact Classical.byContradiction fun n => z fun ps q => n ⟨ps, q⟩
/-- a def's promise whose result is a new plain tuple of pairs of ints -/
abbrev DFnF := List PyData → (List IP → Prop) → Prop
def spF (Ta : List Addr) (R : DFnF) : Sp := fun vs H Q _ => ∃ (Z : Addr → Prop) (ds : List PyData) (q : List IP → Prop), (∀ b, Z b → ∃ o, H b = some o ∧ ∀ ps, o ≠ .tbl ps) ∧ SdL (msk Z H) vs ds ∧ Tb Ta H ∧ R ds q ∧
  ∀ H' a ts ys, Sm H H' → Tb Ta H' → NewA H a → PF H' a ts → PT H' ts ys → (∀ v ∈ ts, ∀ t, v = .ref t → NewA H t) → q ys → Q (.ref a) H'
section
variable {X : Cx} {Ta : List Addr} {nm : Str} {e : Expr} {es : List Expr} {rs : DRA} {k : Nat} {f : Addr} {fd : FuncData} {ps : List Str} {R : DFnF} {x : Str} {p pos : Pos}
@[simp] def rFnF (R : DFnF) (rs : DRA) : DR := fun E q => rs E fun ds => R ds fun ys => q (.tuple (ys.map prD))
theorem pt_new {H1 H' M : Hp} {a : Addr} {u : HO} (n : ∀ t xs, H' t = some (.tup xs) → t ≠ a) (m : ∀ t o, NewA H1 t → upd H' a u t = some o → M t = some o) : ∀ {ts : List V} {ys : List IP}, PT H' ts ys → (∀ v ∈ ts, ∀ t, v = .ref t → NewA H1 t) → SdL M ts (ys.map prD)
  | _, _, .nil, _ => .nil
  | _, _, .cons ⟨t, e, h⟩ r, hf => by
    subst e
    refine .cons (.tup (m _ _ (hf _ List.mem_cons_self _ rfl) ?_) (.cons (.int _) (.cons (.int _) .nil))) (pt_new n m r fun v hv => hf v (List.mem_cons_of_mem _ hv))
    rw [upd_ne (n _ _ h)]
    exact h
theorem dx_callF (F : FnOk X.prog X.w X.K X.mg X.base CX0 k f fd ps (spF Ta R)) (hr : Room k X.A) (hg : Gl X x) (hm : X.mg x = some (.ref f)) (hk : PySem.W.keepIn X.K (.ref f) = true) (hb : Binds X.K fd ps [])
    (ha : PA X (e :: es) (tDA Ta nm rs)) (hdb : (x == ("__debug__" : Str)) = false := by decide +kernel) (he : starEach (e :: es) X.env = (false, eval e X.env) :: starEach es X.env := by rfl) (hpl : (backTo pos (starEach es X.env)).any (·.1) = false := by rfl) :
    PE X (.Call (.Name x p) (e :: es) [] pos) (tD Ta nm (rFnF R rs)) := PE.weak (pe_thaw (pe_call F hr hg hm hk hb .nil (E := E0) pass0 ha hdb he hpl)) fun σ H Q ⟨C, E, q, st, hrs, kk⟩ => by
  show (tDA Ta nm rs) σ H fun vs H1 => spF Ta R (vs ++ []) H1 _ E0
  refine ⟨C, E, _, st, hrs, fun ds vs H1 g1 k1 sds hq => ?_⟩
  show spF Ta R (vs ++ []) H1 _ E0
  rw [List.append_nil]
  have st1 := st.step g1 k1
  refine ⟨Zof C σ E, ds, _, fun b hb => st1.zin hb, sds, k1.tb, hq, fun H' a ts ys s2 t2 n2 pf pt fr hq => ⟨a, ts, rfl, pf, fun o u z => ?_, ?_⟩⟩
  · by_cases dk : C.Dk a
    · obtain ⟨o', e', h'⟩ := k1.at dk
      obtain ⟨ps, e⟩ := n2 _ e'
      exact h' ps e
    · obtain ⟨ps, e⟩ := n2 _ (g1 a _ z (fun _ z => nomatch z) dk)
      cases e
  · have nz : ∀ t, NewA H1 t → ¬ Zof C σ E t := fun t n z => by
      obtain ⟨o', e', h'⟩ := st1.zin z
      obtain ⟨ps, e⟩ := n _ e'
      exact h' ps e
    have na : ∀ b o, H1 b = some o → (∀ ps, o ≠ .tbl ps) → b ≠ a := fun b o e n z => by
      rw [z] at e
      obtain ⟨ps, e⟩ := n2 _ e
      exact n ps e
    have sm : Sm H1 (upd H' a (.tup ts)) := fun b o e n => by rw [upd_ne (na b o e n)]; exact s2 b o e n
    obtain ⟨its, pf⟩ := pf
    have tb : Tb Ta (upd H' a (.tup ts)) := fun t ht => by
      obtain ⟨ps, e, h⟩ := t2 t ht
      exact ⟨ps, by rw [upd_ne (fun z => by rw [z, pf] at e; cases e)]; exact e, h⟩
    refine kk _ _ _ (g1.trans (Sm.go sm)) (k1.sm sm tb) (.tup (msk_some.mpr ⟨nz _ n2, upd_same⟩) (pt_new (H' := H') (fun t xs h z => by rw [z, pf] at h; cases h) (fun t o n e => msk_some.mpr ⟨nz _ n, e⟩) pt fr)) hq
end
end Zk

set_option maxHeartbeats 1000000
/-! M48: machines. -/
namespace Zk
open PySem PySem.Spec PyProof.Rows L2 GxR TL SX
/-- lower letters alone -/
def Low (z : Str) : Prop := ∀ c ∈ z.cps.toList, 97 ≤ c ∧ c ≤ 122
def Asc (z : Str) : Prop := z.cps.toList.Pairwise (· < ·)
/-- a polynomial as data -/
def polyD (ps : List (Int × Int)) : PyData := .tuple (ps.map fun p => .tuple [.int p.1, .int p.2])
structure PolyOk (ps : List (Int × Int)) : Prop where
  asc : (ps.map (·.1)).Pairwise (· < ·)
  exp : ∀ p ∈ ps, 0 ≤ p.1 ∧ p.1 ≤ 4
  co : ∀ p ∈ ps, 1 ≤ p.2 ∧ p.2 ≤ 1000
  len : ps.length ≤ 5
def RuleOk (S : Str) (m : Nat) (d : PyData) : Prop := ∃ (s : Nat) (c : Nat) (v : Int), d = .tuple [.int s, .str ⟨#[c]⟩, .int v] ∧ s ≤ m + 1 ∧ c ∈ S.cps.toList ∧ -1 ≤ v ∧ v ≤ 1
def StateOk (S : Str) (m : Nat) (d : PyData) : Prop := ∃ rs, d = .tuple rs ∧ rs.length = S.length ∧ ∀ r ∈ rs, RuleOk S m r
/-- a machine -/
structure Mach (S : Str) (R : List PyData) (ps : List (Int × Int)) (d : PyData) : Prop where
  e : d = .tuple [.str "machine", .str S, .tuple R, polyD ps]
  low : Low S
  asc : Asc S
  s2 : 2 ≤ S.length
  s26 : S.length ≤ 26
  r1 : 1 ≤ R.length
  r24 : R.length ≤ 24
  st : ∀ x ∈ R, StateOk S R.length x
  po : PolyOk ps
  p0 : ∃ c tl, ps = (0, c) :: tl
/-- the value of a polynomial -/
def polyV : List (Int × Int) → Nat → Int
  | [], _ => 0
  | p :: ps, n => p.2 * (n : Int) ^ p.1.toNat + polyV ps n
/-- a standing of some width, of a machine with these signs and states -/
def isOfB (S : Str) (m : Nat) : PyData → Bool
  | .tuple [.int s, .int h, .str z] => z.cps.toList.all (fun c => decide (c ∈ S.cps.toList)) && decide (0 ≤ s ∧ s ≤ m + 1 ∧ 0 ≤ h ∧ h < z.length)
  | _ => false
def cellsIs (w : Int) : PyData → Bool
  | .tuple [_, _, .str z] => decide ((z.length : Int) = w)
  | _ => false
def isStB (S : Str) (m : Nat) (w : Int) (t : PyData) : Bool := isOfB S m t && cellsIs w t
/-- a standing -/
structure Stand (S : Str) (m w : Nat) (s h : Nat) (z : Str) : Prop where
  s0 : s ≤ m + 1
  h0 : h < w
  l : z.length = w
  sg : ∀ c ∈ z.cps.toList, c ∈ S.cps.toList
theorem isOf_of {S : Str} {m : Nat} {t : PyData} (h : isOfB S m t = true) : ∃ (s h : Nat) (z : Str), t = .tuple [.int s, .int h, .str z] ∧ Stand S m z.length s h z := by
  unfold isOfB at h
  split at h
  · next s h' z =>
    simp only [Bool.and_eq_true, decide_eq_true_eq, List.all_eq_true] at h
    obtain ⟨h1, h2, h3, h4, h5⟩ := h
    exact ⟨s.toNat, h'.toNat, z, by rw [Int.toNat_of_nonneg h2, Int.toNat_of_nonneg h4], by omega, by omega, rfl, h1⟩
  · cases h
def standD (s h : Nat) (z : Str) : PyData := .tuple [.int s, .int h, .str z]
theorem standD_is {S : Str} {m w s h : Nat} {z : Str} (H : Stand S m w s h z) : isOfB S m (standD s h z) = true := by
  show ((z.cps.toList.all fun c => decide (c ∈ S.cps.toList)) && decide _) = true
  rw [Bool.and_eq_true]
  refine ⟨List.all_eq_true.mpr fun c hc => decide_eq_true (H.sg c hc), decide_eq_true ?_⟩
  have := H.s0
  have := H.h0
  have := H.l
  omega
/-- the standing after another one -/
def nextD (S : Str) (R : List PyData) (s h : Nat) (z : Str) : PyData :=
  if R.length ≤ s then standD s h z else
  match R[s]? with
  | some (.tuple rs) => (match rs[(Txt.find S ⟨#[z.cps.toList.getD h 0]⟩).toNat]? with
    | some (.tuple [.int a, .str b, .int v]) => .tuple [.int a, .int (max 0 (min (h + v) (z.length - 1))), .str (cutS z none (some (h : Int)) ++ b ++ cutS z (some (h + 1 : Int)) none)]
    | _ => .none)
  | _ => .none
theorem next_of {S : Str} {R : List PyData} {ps : List (Int × Int)} {m : PyData} {w s h : Nat} {z : Str} (M : Mach S R ps m) (H : Stand S R.length w s h z) (hs : s < R.length) :
    ∃ (rs : List PyData) (i a c : Nat) (v : Int) (y : Nat), R[s]? = some (.tuple rs) ∧ z.cps.toList[h]? = some y ∧ y ∈ S.cps.toList ∧ Txt.find S ⟨#[y]⟩ = (i : Int) ∧ rs[i]? = some (.tuple [.int a, .str ⟨#[c]⟩, .int v]) ∧ a ≤ R.length + 1 ∧ c ∈ S.cps.toList ∧ -1 ≤ v ∧ v ≤ 1 ∧
      nextD S R s h z = .tuple [.int a, .int (max 0 (min (h + v) (z.length - 1))), .str (cutS z none (some (h : Int)) ++ ⟨#[c]⟩ ++ cutS z (some (h + 1 : Int)) none)] := by
  obtain ⟨rs, e, hl, hr⟩ := M.st R[s] (List.getElem_mem hs)
  have h1 : R[s]? = some (.tuple rs) := by rw [List.getElem?_eq_getElem hs, e]
  have hh : h < z.cps.toList.length := by rw [← str_len, H.l]; exact H.h0
  have h2 : z.cps.toList[h]? = some z.cps.toList[h] := List.getElem?_eq_getElem hh
  have h3 := H.sg _ (List.getElem_mem hh)
  obtain ⟨i, h4, hi⟩ := find_at h3
  have hi' : i < rs.length := by omega
  obtain ⟨a, c, v, e2, r1, r2, r3, r4⟩ := hr rs[i] (List.getElem_mem hi')
  have h5 : rs[i]? = some (.tuple [.int a, .str ⟨#[c]⟩, .int v]) := by rw [List.getElem?_eq_getElem hi', e2]
  refine ⟨rs, i, a, c, v, _, h1, h2, h3, h4, h5, r1, r2, r3, r4, ?_⟩
  unfold nextD
  rw [if_neg (by omega), h1]
  have e3 : z.cps.toList.getD h 0 = z.cps.toList[h] := by rw [List.getD_eq_getElem?_getD, h2]; rfl
  rw [e3, h4]
  simp only [Int.toNat_natCast, h5]
end Zk

set_option maxHeartbeats 4000000
/-! G3: the forms of all(..), any(..) that one uses: over a range, a list, a tuple, a text. -/
namespace Zk
open PySem PySem.Spec PyProof.Rows L2 GxR
def gxC (N : List Str) (sc scope : Scope) (own : List (Str × Nat)) : Bool :=
  blkC N sc scope own && (!scope.isCoroutine) && (scope.names.all fun y => match y.2 with | .cell => false | _ => true) && (match scope.names.lookup (".0" : Str) with | some .local => true | _ => false)
theorem gxOk_by {N : List Str} {sc scope : Scope} {own : List (Str × Nat)} (h : gxC N sc scope own = true) : GxOk N sc scope own := by
  unfold gxC at h
  simp only [Bool.and_eq_true, List.all_eq_true, Bool.not_eq_true'] at h
  obtain ⟨⟨⟨h1, h2⟩, h3⟩, h4⟩ := h
  refine ⟨blkOk_by h1, h2, fun y hy e => ?_, ?_⟩
  · have q := h3 y hy
    rw [e] at q
    cases q
  · split at h4
    · assumption
    · cases h4
section
variable {kp : Bool} {g : TG} {tt : TT} {te : TE} {vs : List Nat} {σ : L2.St} {H2 : Hp} {Q : VK}
/-- one turn: from Pv i to Pv (i + 1), or out -/
def GxStep (kp : Bool) (tt : TT) (te : TE) (vs : List Nat) (σ : L2.St) (Q : VK) (Nx : Hp → Prop) : L2.St → Hp → Prop := fun σ2 H2 => wipe σ2 vs = wipe σ vs ∧ tt σ2 H2 fun b H3 =>
  if b = true then te σ2 H3 fun y H4 => ∃ b', y = .bl b' ∧ ((b' = kp ∧ Nx H4) ∨ (b' ≠ kp ∧ Q (.bl b') H4)) else Nx H3
theorem gx_by {J : It} {n : Nat} (Pv : Nat → Hp → Prop) (h0 : Pv 0 H2) (hgo : ∀ i H, i < n → Pv i H → J.go i H) (hs : ∀ i H, i < n → Pv i H → ∀ x H', J.yld i H x H' → g x (wipe σ vs) H' (GxStep kp tt te vs σ Q (Pv (i + 1)))) (hst : ∀ H, Pv n H → J.stop n H)
    (hd : ∀ H, Pv n H → Q (.bl kp) H) : ∃ W : Nat → Nat → Hp → Prop, (∃ m, W 0 m H2) ∧ GxTurn kp J g tt te vs σ Q W := by
  refine ⟨fun i m H => m = n - i ∧ i ≤ n ∧ Pv i H, ⟨n, by simp, Nat.zero_le _, h0⟩, ?_⟩
  rintro i m H ⟨rfl, hi, p⟩
  by_cases hlt : i < n
  · exact .inr ⟨hgo i H hlt p, Pv (i + 1), fun H' p' => ⟨n - (i + 1), by omega, rfl, hlt, p'⟩, hs i H hlt p⟩
  · have e : i = n := by omega
    subst e
    exact .inl ⟨hst H p, hd H p⟩
theorem gx_range {lo : Int} {n : Nat} (Pv : Nat → Hp → Prop) (h0 : Pv 0 H2) (hs : ∀ i H, i < n → Pv i H → g (.int (lo + i)) (wipe σ vs) H (GxStep kp tt te vs σ Q (Pv (i + 1)))) (hd : ∀ H, Pv n H → Q (.bl kp) H) :
    ∃ W : Nat → Nat → Hp → Prop, (∃ m, W 0 m H2) ∧ GxTurn kp (Itr lo n) g tt te vs σ Q W :=
  gx_by Pv h0 (fun i H hi _ => hi) (fun i H hi p x H' y => by obtain ⟨rfl, rfl⟩ := y; exact hs i _ hi p) (fun H _ => Nat.le_refl n) hd
theorem gx_list {K : PySem.W.Frag} {a : Addr} {xs : List V} (Pv : Nat → Hp → Prop) (h0 : Pv 0 H2) (hl : ∀ i H, Pv i H → SqL K H a xs) (hs : ∀ i x H, xs[i]? = some x → Pv i H → g x (wipe σ vs) H (GxStep kp tt te vs σ Q (Pv (i + 1)))) (hd : ∀ H, Pv xs.length H → Q (.bl kp) H) :
    ∃ W : Nat → Nat → Hp → Prop, (∃ m, W 0 m H2) ∧ GxTurn kp (Itl K a) g tt te vs σ Q W :=
  gx_by (n := xs.length) Pv h0 (fun i H hi p => ⟨xs, xs[i], hl i H p, by simp [hi]⟩) (fun i H hi p x H' y => by obtain ⟨rfl, y⟩ := y; exact hs i x _ (y xs (hl i _ p)) p) (fun H p => ⟨xs, hl _ H p, Nat.le_refl _⟩) hd
theorem gx_tup {K : PySem.W.Frag} {a : Addr} {xs : List V} (Pv : Nat → Hp → Prop) (h0 : Pv 0 H2) (hl : ∀ i H, Pv i H → SqT K H a xs) (hs : ∀ i x H, xs[i]? = some x → Pv i H → g x (wipe σ vs) H (GxStep kp tt te vs σ Q (Pv (i + 1)))) (hd : ∀ H, Pv xs.length H → Q (.bl kp) H) :
    ∃ W : Nat → Nat → Hp → Prop, (∃ m, W 0 m H2) ∧ GxTurn kp (Itt K a) g tt te vs σ Q W :=
  gx_by (n := xs.length) Pv h0 (fun i H hi p => ⟨xs, xs[i], hl i H p, by simp [hi]⟩) (fun i H hi p x H' y => by obtain ⟨rfl, y⟩ := y; exact hs i x _ (y xs (hl i _ p)) p) (fun H p => ⟨xs, hl _ H p, Nat.le_refl _⟩) hd
theorem gx_str {x : Str} (Pv : Nat → Hp → Prop) (h0 : Pv 0 H2) (hs : ∀ i c H, x.cps.toList[i]? = some c → Pv i H → g (.str ⟨#[c]⟩) (wipe σ vs) H (GxStep kp tt te vs σ Q (Pv (i + 1)))) (hd : ∀ H, Pv x.cps.toList.length H → Q (.bl kp) H) :
    ∃ W : Nat → Nat → Hp → Prop, (∃ m, W 0 m H2) ∧ GxTurn kp (Its x) g tt te vs σ Q W :=
  gx_by (n := x.cps.toList.length) Pv h0 (fun i H hi p => by show i < x.cps.size; simpa using hi) (fun i H hi p v H' y => by
    obtain ⟨rfl, c, e, rfl⟩ := y
    exact hs i c _ (by simpa using e) p) (fun H p => by show x.cps.size ≤ _; simp) hd
end
end Zk

set_option maxHeartbeats 1000000
/-! A1: the program's own defs of words, polynomials and machines. -/
namespace Zk
open PySem PySem.Spec PyProof.Rows L2 GxR TL SX
abbrev s_is_integer : Stmt := top 1
theorem sc_is_integer : FnScope ["thing"] ["thing"] (defScope s_is_integer) := ⟨rfl, rfl, rfl, by decide +kernel, rfl, by decide +kernel, by decide +kernel⟩
abbrev s_is_letter : Stmt := top 2
theorem sc_is_letter : FnScope ["thing"] ["thing"] (defScope s_is_letter) := ⟨rfl, rfl, rfl, by decide +kernel, rfl, by decide +kernel, by decide +kernel⟩
abbrev s_is_ascending : Stmt := top 3
theorem sc_is_ascending : FnScope ["items", "at"] ["items"] (defScope s_is_ascending) := ⟨rfl, rfl, rfl, by decide +kernel, rfl, by decide +kernel, by decide +kernel⟩
abbrev s_is_word : Stmt := top 12
theorem sc_is_word : FnScope ["thing", "sign"] ["thing"] (defScope s_is_word) := ⟨rfl, rfl, rfl, by decide +kernel, rfl, by decide +kernel, by decide +kernel⟩
abbrev s_is_pair : Stmt := top 14
theorem sc_is_pair : FnScope ["thing", "exponent", "coefficient"] ["thing"] (defScope s_is_pair) := ⟨rfl, rfl, rfl, by decide +kernel, rfl, by decide +kernel, by decide +kernel⟩
abbrev s_is_poly : Stmt := top 13
theorem sc_is_poly : FnScope ["thing", "pair"] ["thing"] (defScope s_is_poly) := ⟨rfl, rfl, rfl, by decide +kernel, rfl, by decide +kernel, by decide +kernel⟩
abbrev s_is_rule : Stmt := top 25
theorem sc_is_rule : FnScope ["thing", "signs", "many", "state", "sign", "move"] ["thing", "signs", "many"] (defScope s_is_rule) := ⟨rfl, rfl, rfl, by decide +kernel, rfl, by decide +kernel, by decide +kernel⟩
abbrev s_is_state : Stmt := top 24
theorem sc_is_state : FnScope ["thing", "signs", "many", "rule"] ["thing", "signs", "many"] (defScope s_is_state) := ⟨rfl, rfl, rfl, by decide +kernel, rfl, by decide +kernel, by decide +kernel⟩
abbrev s_is_machine : Stmt := top 23
theorem sc_is_machine : FnScope ["thing", "_", "room", "rules", "signs", "state"] ["thing"] (defScope s_is_machine) := ⟨rfl, rfl, rfl, by decide +kernel, rfl, by decide +kernel, by decide +kernel⟩
section
variable {P : Program} {w : World} {K : PySem.W.Frag} {mg : Str → Option Value} {base : Heap} {f c pt : Addr} {fd : FuncData} {Ta : List Addr}
def isIntB : PyData → Bool
  | .int _ => true
  | _ => false
def RB (g : PyData → Bool) : DFn := fun ds q => ∃ d, ds = [d] ∧ q (.bool (g d))
theorem ok_is_integer (F : Fun K "is_integer" "is_integer" s_is_integer f fd) (T : Blt mg) : FnOk P w K mg base CX0 1 f fd ["thing"] (spD' Ta (RB isIntB)) :=
  fn_d (k := 0) kn F sc_is_integer (fun ds q ⟨d, h, _⟩ => by rw [h]; rfl) (by decide) fun cdv A outer s H E hr => ⟨_, (dss_one (ds_ret (dx_and (dx_is .int (dx_var 0) (by rfl) T.isinstance (by rfl) T.int (by decide +kernel)) (dx_one (dx_not (dx_is .bool (dx_var 0) (by rfl) T.isinstance (by rfl) T.bool (by decide +kernel))))))), fun ds q ⟨d, h, hq⟩ => by
    subst h
    cases d <;> simpa [isNumD, isBoolD, isIntB] using hq⟩
theorem ints_mem {n : Nat} {d : PyData} (h : d ∈ intsD 0 n) : ∃ i : Nat, i < n ∧ d = .int i := by
  obtain ⟨i, hi, rfl⟩ := List.mem_map.mp h
  exact ⟨i, List.mem_range.mp hi, by simp⟩
def lowB (c : Nat) : Bool := decide (97 ≤ c ∧ c ≤ 122)
def RLetter : DFn := fun ds q => ∃ c, ds = [.str ⟨#[c]⟩] ∧ q (.bool (lowB c))
theorem ok_is_letter (F : Fun K "is_letter" "is_letter" s_is_letter f fd) (T : Blt mg) : FnOk P w K mg base CX0 1 f fd ["thing"] (spD' Ta RLetter) :=
  fn_d (k := 0) kn F sc_is_letter (fun ds q ⟨d, h, _⟩ => by rw [h]; rfl) (by decide) fun cdv A outer s H E hr => ⟨_, (dss_one (ds_ret (dx_and (dx_is .str (dx_var 0) (by rfl) T.isinstance (by rfl) T.str (by decide +kernel)) (dx_and (dx_cmp op_eq opS_eq (dx_callB call_len callS_len (by rfl) T.len PySem.boot_len (da_cons (dx_var 0) da_nil)) dx_int (nomark _)) (dx_one (dx_chain op_le_str op_le_str opS_leS opS_leS dx_str (dx_var 0) dx_str)))))), fun ds q ⟨c, h, hq⟩ => by
    subst h
    have l1 : (⟨#[c]⟩ : Str).length = 1 := rfl
    have ha : ("a" : Str).cps.toList = [97] := by decide
    have hz : ("z" : Str).cps.toList = [122] := by decide
    have e1 : ∀ a b : Nat, decide ([a] < [b]) = decide (a < b) := fun a b => by simp [List.cons_lt_cons_iff]
    have a1 : (#[c] < ("a" : Str).cps) ↔ c < 97 := by
      show [c] < ("a" : Str).cps.toList ↔ _
      rw [ha]
      simp [List.cons_lt_cons_iff]
    have a2 : (("a" : Str).cps ≤ #[c]) ↔ 97 ≤ c := by
      show ¬ ([c] < ("a" : Str).cps.toList) ↔ _
      rw [ha]
      simp [List.cons_lt_cons_iff]
    have a3 : (("z" : Str).cps < #[c]) ↔ 122 < c := by
      show ("z" : Str).cps.toList < [c] ↔ _
      rw [hz]
      simp [List.cons_lt_cons_iff]
    simp [isStrD, lenD, l1, a1, a2, a3]
    refine ⟨by decide, ?_⟩
    unfold lowB at hq
    by_cases h1 : 97 ≤ c
    · by_cases h2 : c ≤ 122
      · right
        simpa [h1, h2, Nat.not_lt.mpr h2] using hq
      · right
        simpa [h1, h2, Nat.lt_of_not_le h2] using hq
    · left
      simpa [h1, Nat.lt_of_not_le h1] using hq⟩
/-- ascending texts and rows of ints -/
def RAsc : DFn := fun ds q => ((∃ z : Str, ds = [.str z] ∧ z.length ≤ 1000 ∧ Asc z) ∨ ∃ ns : List Int, ds = [.list (ns.map PyData.int)] ∧ ns.length ≤ 1000 ∧ ns.Pairwise (· < ·)) ∧ q (.bool true)
theorem ok_is_ascending (F : FunD K "is_ascending" "is_ascending" s_is_ascending f fd c) (TB : TabB base mg c pt) (hT : pt ∈ Ta) (T : Blt mg) : FnOk P w K mg base CX0 2 f fd ["items"] (spD' Ta RAsc) :=
  fn_dC (k := 1) kn F sc_is_ascending (fun ds q ⟨h, _⟩ => by rcases h with ⟨_, h, _⟩ | ⟨_, h, _⟩ <;> (rw [h]; rfl)) (by decide) fun A outer s H E hr => ⟨_, (dss_one (ds_ret (dx_all (own := [("at", 1)]) hr (by rfl) T.all TB hT rfl sc_is_ascending.nd (gxOk_by (N := ["items", "at"]) (sc := defScope s_is_ascending) (by decide +kernel)) (di_range (by rfl) T.range (dx_op op_sub (opS_int _) (dx_callB call_len callS_len (by rfl) T.len PySem.boot_len (da_cons (dx_var 0) da_nil)) dx_int)) (gs_n 1) (by decide) (fun _ _ _ _ _ _ _ _ hr => (pg_name (i := 1) sc_is_ascending.nd rfl (by first | exact Or.inl rfl | exact Or.inr rfl))) (fun _ _ _ _ _ _ _ _ hr => dts_nil) (fun _ _ _ _ _ _ _ _ hr => (dx_cmp op_ltA opS_ltA (dx_ix ix_A opS_ix (dx_var 0) (dx_var 1) (fun _ _ => rfl)) (dx_ix ix_A opS_ix (dx_var 0) (dx_op op_add (opS_int _) (dx_var 1) dx_int) (fun _ _ => rfl)) (nomark _)))))), fun ds q ⟨h, hq⟩ => by
    rcases h with ⟨z, rfl, hl, ha⟩ | ⟨ns, rfl, hl, ha⟩
    · have hz : z.length ≤ sizeLine := Nat.le_trans hl (by decide)
      refine rAll_all (f := fun _ => true) (intsD 0 (z.length - 1)) (noOwn_of (by simp)) (by simp) (fun q' h => ?_) (fun d hd q' h => ?_) (by rw [List.all_eq_true.mpr fun _ _ => rfl]; exact hq)
      · simp [lenD]
        exact ⟨by omega, by omega, by omega, h⟩
      · obtain ⟨i, hi, rfl⟩ := ints_mem hd
        have h1 : i + 1 < z.cps.toList.length := by rw [← str_len]; omega
        simp [hz, wipeE]
        refine ⟨_, atI_nat (List.getElem?_eq_getElem (Nat.lt_of_succ_lt h1)), _, by rw [show (i : Int) + 1 = ((i + 1 : Nat) : Int) by omega]; exact atI_nat (List.getElem?_eq_getElem h1), ?_⟩
        have := (List.pairwise_iff_getElem.mp ha) i (i + 1) (by omega) h1 (by omega)
        have e : ∀ a b : Nat, ([a] < [b]) ↔ a < b := fun a b => by simp [List.cons_lt_cons_iff]
        have hs : i + 1 < z.cps.size := by simpa using h1
        have this' : z.cps[i]'(by omega) < z.cps[i + 1] := by simpa using this
        simpa [e, this'] using h
    · refine rAll_all (f := fun _ => true) (intsD 0 (ns.length - 1)) (noOwn_of (by simp)) (by simp) (fun q' h => ?_) (fun d hd q' h => ?_) (by rw [List.all_eq_true.mpr fun _ _ => rfl]; exact hq)
      · simp [lenD]
        exact ⟨Nat.le_trans hl (by decide), by omega, by omega, h⟩
      · obtain ⟨i, hi, rfl⟩ := ints_mem hd
        have h1 : i + 1 < ns.length := by omega
        simp [wipeE]
        refine ⟨_, atI_nat (by rw [List.getElem?_map, List.getElem?_eq_getElem (Nat.lt_of_succ_lt h1)]; rfl), _, by rw [show (i : Int) + 1 = ((i + 1 : Nat) : Int) by omega]; exact atI_nat (by rw [List.getElem?_map, List.getElem?_eq_getElem h1]; rfl), ?_⟩
        have := (List.pairwise_iff_getElem.mp ha) i (i + 1) (by omega) h1 (by omega)
        simpa [this] using h⟩
/-- a word -/
def RWord : DFn := fun ds q => ∃ z, ds = [.str z] ∧ Low z ∧ q (.bool true)
theorem ok_is_word (F : FunD K "is_word" "is_word" s_is_word f fd c) (TB : TabB base mg c pt) (hT : pt ∈ Ta) (T : Blt mg) (C1 : CallD P w K mg base "is_letter" 1 ["thing"] (spD' Ta RLetter)) : FnOk P w K mg base CX0 3 f fd ["thing"] (spD' Ta RWord) := by
  obtain ⟨_, _, G_is_letter, b_is_letter, k_is_letter, m_is_letter⟩ := C1.ex
  refine fn_dC (k := 2) kn F sc_is_word (fun ds q ⟨z, h, _⟩ => by rw [h]; rfl) (by decide) fun A outer s H E hr => ⟨_, (dss_one (ds_ret (dx_and (dx_is .str (dx_var 0) (by rfl) T.isinstance (by rfl) T.str (by decide +kernel)) (dx_one (dx_all (own := [("sign", 1)]) hr (by rfl) T.all TB hT rfl sc_is_word.nd (gxOk_by (N := ["thing", "sign"]) (sc := defScope s_is_word) (by decide +kernel)) (di_str (dx_var 0)) (gs_n 1) (by decide) (fun _ _ _ _ _ _ _ _ hr => (pg_name (i := 1) sc_is_word.nd rfl (by first | exact Or.inl rfl | exact Or.inr rfl))) (fun _ _ _ _ _ _ _ _ hr => dts_nil) (fun _ _ _ _ _ _ _ _ hr => (dx_call G_is_letter (hr.mono (by omega)) rfl m_is_letter k_is_letter b_is_letter (da_cons (dx_var 1) da_nil)))))))), fun ds q ⟨z, h, hl, hq⟩ => ?_⟩
  subst h
  refine ⟨_, rfl, true, rfl, ?_⟩
  simp only [if_true]
  refine rAll_all (f := fun _ => true) (signsD z) (noOwn_of (by simp)) (by simp) (fun q' h => ⟨_, rfl, z, rfl, h⟩) (fun d hd q' h => ?_) (by rw [List.all_eq_true.mpr fun _ _ => rfl]; exact hq)
  obtain ⟨x, hx, rfl⟩ := List.mem_map.mp hd
  refine ⟨_, rfl, x, rfl, ?_⟩
  have : lowB x = true := decide_eq_true (hl x hx)
  rw [this]
  exact h
/-- polynomials -/
def RPair : DFn := fun ds q => ∃ a b : Int, ds = [.tuple [.int a, .int b]] ∧ 0 ≤ a ∧ 1 ≤ b ∧ q (.bool true)
theorem ok_is_pair (F : Fun K "is_pair" "is_pair" s_is_pair f fd) (T : Blt mg) (C1 : CallD P w K mg base "is_integer" 1 ["thing"] (spD' Ta (RB isIntB))) : FnOk P w K mg base CX0 2 f fd ["thing"] (spD' Ta RPair) := by
  obtain ⟨_, _, G_is_integer, b_is_integer, k_is_integer, m_is_integer⟩ := C1.ex
  refine fn_d (k := 1) kn F sc_is_pair (fun ds q ⟨_, _, h, _⟩ => by rw [h]; rfl) (by decide) fun cdv A outer s H E hr => ⟨_, (dss_cons (ds_if (PW.pt (dw_or (dt_not (dt_val (dx_is .tuple (dx_var 0) (by rfl) T.isinstance (by rfl) T.tuple (by decide +kernel)))) (dw_or1 (dt_cmp op_ne opS_ne (dx_callB call_len callS_len (by rfl) T.len PySem.boot_len (da_cons (dx_var 0) da_nil)) dx_int (nomark _))))) (dss_one (ds_ret dx_bl)) dss_nil)
    (dss_cons (ds_asg (ps_asg (dx_var 0) (pg_tup (n := 2) (by rfl) (pgs_cons (pg_name (i := 1) sc_is_pair.nd rfl (Or.inl rfl)) (pgs_cons (pg_name (i := 2) sc_is_pair.nd rfl (Or.inl rfl)) pgs_nil)))) (gs_tup (gss_cons (gs_n 1) (gss_cons (gs_n 2) gss_nil))))
    (dss_cons (ds_if (PW.pt (dw_or (dt_not (dt_val (dx_call G_is_integer (hr.mono (by omega)) rfl m_is_integer k_is_integer b_is_integer (da_cons (dx_var 1) da_nil)))) (dw_or1 (dt_not (dt_val (dx_call G_is_integer (hr.mono (by omega)) rfl m_is_integer k_is_integer b_is_integer (da_cons (dx_var 2) da_nil))))))) (dss_one (ds_ret dx_bl)) dss_nil)
    (dss_one (ds_ret (dx_and (dx_cmp op_ge (opS_bool _) (dx_var 1) dx_int (nomark _)) (dx_one (dx_cmp op_ge (opS_bool _) (dx_var 2) dx_int (nomark _))))))))), fun ds q ⟨a, b, h, ha, hb, hq⟩ => ?_⟩
  subst h
  simp [lenD, isTupD, RB, and_assoc, isIntB]
  refine ⟨by decide, ?_⟩
  rw [if_pos ha, decide_eq_true hb]
  exact hq
def RPoly : DFn := fun ds q => ∃ ps, ds = [polyD ps] ∧ PolyOk ps ∧ q (.bool true)
theorem ok_is_poly (F : FunD K "is_poly" "is_poly" s_is_poly f fd c) (TB : TabB base mg c pt) (hT : pt ∈ Ta) (T : Blt mg) (C1 : CallD P w K mg base "is_pair" 2 ["thing"] (spD' Ta RPair)) (C2 : CallD P w K mg base "is_ascending" 2 ["items"] (spD' Ta RAsc)) : FnOk P w K mg base CX0 4 f fd ["thing"] (spD' Ta RPoly) := by
  obtain ⟨_, _, G_is_pair, b_is_pair, k_is_pair, m_is_pair⟩ := C1.ex
  obtain ⟨_, _, G_is_ascending, b_is_ascending, k_is_ascending, m_is_ascending⟩ := C2.ex
  refine fn_dC (k := 3) kn F sc_is_poly (fun ds q ⟨_, h, _⟩ => by rw [h]; rfl) (by decide) fun A outer s H E hr => ⟨_, (dss_cons (ds_if (PW.pt (dw_or (dt_not (dt_val (dx_is .tuple (dx_var 0) (by rfl) T.isinstance (by rfl) T.tuple (by decide +kernel)))) (dw_or1 (dt_not (dt_val (dx_all (own := [("pair", 1)]) hr (by rfl) T.all TB hT rfl sc_is_poly.nd (gxOk_by (N := ["thing", "pair"]) (sc := defScope s_is_poly) (by decide +kernel)) (di_seq (dx_var 0)) (gs_n 1) (by decide) (fun _ _ _ _ _ _ _ _ hr => (pg_name (i := 1) sc_is_poly.nd rfl (by first | exact Or.inl rfl | exact Or.inr rfl))) (fun _ _ _ _ _ _ _ _ hr => dts_nil) (fun _ _ _ _ _ _ _ _ hr => (dx_call G_is_pair (hr.mono (by omega)) rfl m_is_pair k_is_pair b_is_pair (da_cons (dx_var 1) da_nil))))))))) (dss_one (ds_ret dx_bl)) dss_nil)
    (dss_one (ds_ret (dx_call G_is_ascending (hr.mono (by omega)) rfl m_is_ascending k_is_ascending b_is_ascending (da_cons (dx_lc (own := [("pair", 1)]) rfl sc_is_poly.nd (di_seq (dx_var 0)) (blkOk_by (N := ["thing", "pair"]) (sc := defScope s_is_poly) (by decide +kernel)) (fun _ _ _ _ _ => (pg_name (i := 1) sc_is_poly.nd rfl (by first | exact Or.inl rfl | exact Or.inr rfl))) (gs_n 1) (by decide) (fun _ _ _ _ _ => dts_nil) (fun _ _ _ _ _ => (dx_ix ix_A opS_ix (dx_var 1) dx_int (fun _ _ => rfl)))) da_nil))))), fun ds q ⟨ps, h, ok, hq⟩ => ?_⟩
  subst h
  have mem : ∀ d ∈ ps.map (fun p => PyData.tuple [.int p.1, .int p.2]), ∃ p ∈ ps, d = .tuple [.int p.1, .int p.2] := fun d hd => by
    obtain ⟨p, hp, rfl⟩ := List.mem_map.mp hd
    exact ⟨p, hp, rfl⟩
  have hl := ok.len
  refine seq_skip (fun k hk => ?_) ?_
  · refine ⟨_, rfl, true, rfl, iteF ?_⟩
    simp only [rtNot, rTest]
    refine rAll_all (f := fun _ => true) (ps.map fun p => PyData.tuple [.int p.1, .int p.2]) (noOwn_of (by simp)) (by simp) (fun q' h => ⟨_, rfl, _, .inr rfl, h⟩) (fun d hd q' h => ?_) (by rw [List.all_eq_true.mpr fun _ _ => rfl]; exact ⟨_, rfl, hk⟩)
    obtain ⟨p, hp, rfl⟩ := mem d hd
    exact ⟨_, rfl, p.1, p.2, rfl, (ok.exp p hp).1, (ok.co p hp).1, h⟩
  · simp only [rRet, rFn, raCons, raNil]
    refine rLc_map (g := fun d => match d with | .tuple [.int a, .int b] => .int a | _ => .none) (ps.map fun p => PyData.tuple [.int p.1, .int p.2]) (noOwn_of (by simp)) (by simp) (by rw [List.length_map]; exact Nat.le_trans hl (by decide)) (fun q' h => ⟨_, rfl, _, .inr rfl, h⟩) (fun d hd q' h => ?_) ?_
    · obtain ⟨p, hp, rfl⟩ := mem d hd
      simpa [wipeE] using h
    · refine ⟨.inr ⟨ps.map (·.1), ?_, by rw [List.length_map]; omega, ok.asc⟩, hq⟩
      rw [List.map_map, List.map_map]
      rfl
/-- rules, states, machines -/
def RRule : DFn := fun ds q => ∃ (S : Str) (m : Nat) (d : PyData), ds = [d, .str S, .int m] ∧ RuleOk S m d ∧ S.length ≤ 26 ∧ q (.bool true)
theorem ok_is_rule (SB : SysB base) (F : Fun K "is_rule" "is_rule" s_is_rule f fd) (T : Blt mg) (C1 : CallD P w K mg base "is_integer" 1 ["thing"] (spD' Ta (RB isIntB))) : FnOk P w K mg base CX0 2 f fd ["thing", "signs", "many"] (spD' Ta RRule) := by
  obtain ⟨_, _, G_is_integer, b_is_integer, k_is_integer, m_is_integer⟩ := C1.ex
  refine fn_d (k := 1) kn F sc_is_rule (fun ds q ⟨_, _, _, h, _⟩ => by rw [h]; rfl) (by decide) fun cdv A outer s H E hr => ⟨_, (dss_cons (ds_if (PW.pt (dw_or (dt_not (dt_val (dx_is .tuple (dx_var 0) (by rfl) T.isinstance (by rfl) T.tuple (by decide +kernel)))) (dw_or1 (dt_cmp op_ne opS_ne (dx_callB call_len callS_len (by rfl) T.len PySem.boot_len (da_cons (dx_var 0) da_nil)) dx_int (nomark _))))) (dss_one (ds_ret dx_bl)) dss_nil)
    (dss_cons (ds_asg (ps_asg (dx_var 0) (pg_tup (n := 3) (by rfl) (pgs_cons (pg_name (i := 3) sc_is_rule.nd rfl (Or.inl rfl)) (pgs_cons (pg_name (i := 4) sc_is_rule.nd rfl (Or.inl rfl)) (pgs_cons (pg_name (i := 5) sc_is_rule.nd rfl (Or.inl rfl)) pgs_nil))))) (gs_tup (gss_cons (gs_n 3) (gss_cons (gs_n 4) (gss_cons (gs_n 5) gss_nil)))))
    (dss_cons (ds_if (PW.pt (dw_or (dt_not (dt_val (dx_call G_is_integer (hr.mono (by omega)) rfl m_is_integer k_is_integer b_is_integer (da_cons (dx_var 3) da_nil)))) (dw_or1 (dt_not (dt_chain op_le op_le (opS_bool _) (opS_bool _) dx_int (dx_var 3) (dx_op op_add (opS_int _) (dx_var 2) dx_int)))))) (dss_one (ds_ret dx_bl)) dss_nil)
    (dss_one (ds_ret (dx_and (dx_cmp op_in_seq opS_inQ (dx_var 4) (dx_callT (call_listS rfl) callS_listS (by rfl) T.list (by decide +kernel) (da_cons (dx_var 1) da_nil)) (by rfl)) (dx_and (dx_call G_is_integer (hr.mono (by omega)) rfl m_is_integer k_is_integer b_is_integer (da_cons (dx_var 5) da_nil)) (dx_one (dx_chain op_le op_le (opS_bool _) (opS_bool _) (dx_neg dx_int) (dx_var 5) dx_int))))))))), fun ds q ⟨S, m, d, h, ok, hS, hq⟩ => ?_⟩
  subst h
  obtain ⟨s', x, v, rfl, h1, h2, h3, h4⟩ := ok
  have hS' : S.length ≤ sizeLine := Nat.le_trans hS (by decide)
  have h1' : (s' : Int) ≤ m + 1 := by omega
  have fx : (∃ y, y ∈ signsD S ∧ PyData.eqv y (.str ⟨#[x]⟩) = true) := ⟨_, List.mem_map.mpr ⟨x, h2, rfl⟩, by simp⟩
  have fl : ∀ y ∈ signsD S, flatD y = true := fun y hy => by
    obtain ⟨_, _, rfl⟩ := List.mem_map.mp hy
    rfl
  simp [isTupD, lenD, RB, isIntB, and_assoc, hS', h1', h3, h4, if_pos fx]
  exact ⟨by decide, fl, hq⟩
def RState : DFn := fun ds q => ∃ (S : Str) (m : Nat) (d : PyData), ds = [d, .str S, .int m] ∧ StateOk S m d ∧ S.length ≤ 26 ∧ q (.bool true)
theorem ok_is_state (F : FunD K "is_state" "is_state" s_is_state f fd c) (TB : TabB base mg c pt) (hT : pt ∈ Ta) (T : Blt mg) (C1 : CallD P w K mg base "is_rule" 2 ["thing", "signs", "many"] (spD' Ta RRule)) : FnOk P w K mg base CX0 4 f fd ["thing", "signs", "many"] (spD' Ta RState) := by
  obtain ⟨_, _, G_is_rule, b_is_rule, k_is_rule, m_is_rule⟩ := C1.ex
  refine fn_dC (k := 3) kn F sc_is_state (fun ds q ⟨_, _, _, h, _⟩ => by rw [h]; rfl) (by decide) fun A outer s H E hr => ⟨_, (dss_cons (ds_if (PW.pt (dw_or (dt_not (dt_val (dx_is .tuple (dx_var 0) (by rfl) T.isinstance (by rfl) T.tuple (by decide +kernel)))) (dw_or1 (dt_cmp op_ne opS_ne (dx_callB call_len callS_len (by rfl) T.len PySem.boot_len (da_cons (dx_var 0) da_nil)) (dx_callB call_len callS_len (by rfl) T.len PySem.boot_len (da_cons (dx_var 1) da_nil)) (nomark _))))) (dss_one (ds_ret dx_bl)) dss_nil)
    (dss_one (ds_ret (dx_all (own := [("rule", 3)]) hr (by rfl) T.all TB hT rfl sc_is_state.nd (gxOk_by (N := ["thing", "signs", "many", "rule"]) (sc := defScope s_is_state) (by decide +kernel)) (di_seq (dx_var 0)) (gs_n 3) (by decide) (fun _ _ _ _ _ _ _ _ hr => (pg_name (i := 3) sc_is_state.nd rfl (by first | exact Or.inl rfl | exact Or.inr rfl))) (fun _ _ _ _ _ _ _ _ hr => dts_nil) (fun _ _ _ _ _ _ _ _ hr => (dx_call G_is_rule (hr.mono (by omega)) rfl m_is_rule k_is_rule b_is_rule (da_cons (dx_var 3) (da_cons (dx_var 1) (da_cons (dx_var 2) da_nil))))))))), fun ds q ⟨S, m, d, h, ok, hS, hq⟩ => ?_⟩
  subst h
  obtain ⟨rs, rfl, hl, hr'⟩ := ok
  have hS' : S.length ≤ sizeLine := Nat.le_trans hS (by decide)
  refine seq_skip (fun k hk => ?_) ?_
  · simp [isTupD, lenD, hl, hS']
    exact hk
  · refine rAll_all (f := fun _ => true) rs (noOwn_of (by simp)) (by simp) (fun q' h => ⟨_, rfl, _, .inr rfl, h⟩) (fun d hd q' h => ?_) (by rw [List.all_eq_true.mpr fun _ _ => rfl]; simpa using hq)
    exact ⟨_, rfl, _, rfl, _, rfl, S, m, d, rfl, hr' d hd, hS, h⟩
def RMach : DFn := fun ds q => ∃ S R ps d, ds = [d] ∧ Mach S R ps d ∧ q (.bool true)
theorem ok_is_machine (SB : SysB base) (F : FunD K "is_machine" "is_machine" s_is_machine f fd c) (TB : TabB base mg c pt) (hT : pt ∈ Ta) (T : Blt mg) (C1 : CallD P w K mg base "is_word" 3 ["thing"] (spD' Ta RWord)) (C2 : CallD P w K mg base "is_ascending" 2 ["items"] (spD' Ta RAsc)) (C3 : CallD P w K mg base "is_state" 4 ["thing", "signs", "many"] (spD' Ta RState)) (C4 : CallD P w K mg base "is_poly" 4 ["thing"] (spD' Ta RPoly)) : FnOk P w K mg base CX0 6 f fd ["thing"] (spD' Ta RMach) := by
  obtain ⟨_, _, G_is_word, b_is_word, k_is_word, m_is_word⟩ := C1.ex
  obtain ⟨_, _, G_is_ascending, b_is_ascending, k_is_ascending, m_is_ascending⟩ := C2.ex
  obtain ⟨_, _, G_is_state, b_is_state, k_is_state, m_is_state⟩ := C3.ex
  obtain ⟨_, _, G_is_poly, b_is_poly, k_is_poly, m_is_poly⟩ := C4.ex
  refine fn_dC (k := 5) kn F sc_is_machine (fun ds q ⟨_, _, _, _, h, _⟩ => by rw [h]; rfl) (by decide) fun A outer s H E hr => ⟨_, (dss_cons (ds_if (PW.pt (dw_or (dt_not (dt_val (dx_is .tuple (dx_var 0) (by rfl) T.isinstance (by rfl) T.tuple (by decide +kernel)))) (dw_or (dt_cmp op_ne opS_ne (dx_callB call_len callS_len (by rfl) T.len PySem.boot_len (da_cons (dx_var 0) da_nil)) dx_int (nomark _)) (dw_or1 (dt_cmp (op_neS SB hr.units) (opS_eqS _) (dx_ix ix_A opS_ix (dx_var 0) dx_int (fun _ _ => rfl)) dx_str (nomark _)))))) (dss_one (ds_ret dx_bl)) dss_nil)
    (dss_cons (ds_asg (ps_asg (dx_var 0) (pg_tup (n := 4) (by rfl) (pgs_cons (pg_name (i := 1) sc_is_machine.nd rfl (Or.inl rfl)) (pgs_cons (pg_name (i := 4) sc_is_machine.nd rfl (Or.inr rfl)) (pgs_cons (pg_name (i := 3) sc_is_machine.nd rfl (Or.inr rfl)) (pgs_cons (pg_name (i := 2) sc_is_machine.nd rfl (Or.inl rfl)) pgs_nil)))))) (gs_tup (gss_cons (gs_n 1) (gss_cons (gs_n 4) (gss_cons (gs_n 3) (gss_cons (gs_n 2) gss_nil))))))
    (dss_cons (ds_if (PW.pt (dw_or (dt_not (dt_val (dx_call G_is_word (hr.mono (by omega)) rfl m_is_word k_is_word b_is_word (da_cons (dx_var 4) da_nil)))) (dw_or (dt_cmp op_lt (opS_bool _) (dx_callB call_len callS_len (by rfl) T.len PySem.boot_len (da_cons (dx_var 4) da_nil)) dx_int (nomark _)) (dw_or1 (dt_not (dt_val (dx_call G_is_ascending (hr.mono (by omega)) rfl m_is_ascending k_is_ascending b_is_ascending (da_cons (dx_var 4) da_nil)))))))) (dss_one (ds_ret dx_bl)) dss_nil)
    (dss_cons (ds_if (PW.pt (dw_or (dt_not (dt_val (dx_is .tuple (dx_var 3) (by rfl) T.isinstance (by rfl) T.tuple (by decide +kernel)))) (dw_or1 (dt_not (dt_chain op_le op_le (opS_bool _) (opS_bool _) dx_int (dx_callB call_len callS_len (by rfl) T.len PySem.boot_len (da_cons (dx_var 3) da_nil)) dx_int))))) (dss_one (ds_ret dx_bl)) dss_nil)
    (dss_cons (ds_if (dt_not (dt_val (dx_all (own := [("state", 5)]) hr (by rfl) T.all TB hT rfl sc_is_machine.nd (gxOk_by (N := ["thing", "_", "room", "rules", "signs", "state"]) (sc := defScope s_is_machine) (by decide +kernel)) (di_seq (dx_var 3)) (gs_n 5) (by decide) (fun _ _ _ _ _ _ _ _ hr => (pg_name (i := 5) sc_is_machine.nd rfl (by first | exact Or.inl rfl | exact Or.inr rfl))) (fun _ _ _ _ _ _ _ _ hr => dts_nil) (fun _ _ _ _ _ _ _ _ hr => (dx_call G_is_state (hr.mono (by omega)) rfl m_is_state k_is_state b_is_state (da_cons (dx_var 5) (da_cons (dx_var 4) (da_cons (dx_callB call_len callS_len (by rfl) T.len PySem.boot_len (da_cons (dx_var 3) da_nil)) da_nil)))))))) (dss_one (ds_ret dx_bl)) dss_nil)
    (dss_one (ds_ret (dx_and (dx_call G_is_poly (hr.mono (by omega)) rfl m_is_poly k_is_poly b_is_poly (da_cons (dx_var 2) da_nil)) (dx_and (dx_neT hr.units0 (dq_data (dx_var 2))) (dx_one (dx_cmp op_eq opS_eq (dx_ix ix_A opS_ix (dx_ix ix_A opS_ix (dx_var 2) dx_int (fun _ _ => rfl)) dx_int (fun _ _ => rfl)) dx_int (nomark _)))))))))))), fun ds q ⟨S, R, ps, d, h, ok, hq⟩ => ?_⟩
  subst h
  obtain ⟨rfl, h1, h2, h3, h4, h5, h6, h7, h8, x, tl, rfl⟩ := ok
  have hS' : S.length ≤ sizeLine := Nat.le_trans h4 (by decide)
  have hR' : R.length ≤ sizeLine := Nat.le_trans h6 (by decide)
  have sh : SeqAt.shaped (.str "machine") = true := by decide +kernel
  change rSeq _ _ _ [DV.d _, .no, .no, .no, .no, .no]
  refine seq_skip (fun k hk => ?_) ?_
  · simp [isTupD, lenD, sh]
    exact ⟨by decide, hk⟩
  refine ⟨_, rfl, _, rfl, rfl, _, _, rfl, by simp, _, _, rfl, by simp, _, _, rfl, by simp, _, _, rfl, by simp, rfl, ?_⟩
  simp only [List.set_cons_succ, List.set_cons_zero]
  refine seq_skip (fun k hk => ?_) ?_
  · refine ⟨_, rfl, S, rfl, h1, true, rfl, ?_⟩
    simp [hS', RAsc]
    rw [if_neg (by omega)]
    exact ⟨⟨by omega, h2⟩, hk⟩
  refine seq_skip (fun k hk => ?_) ?_
  · simp [isTupD, lenD, hR']
    rw [if_pos (by omega), decide_eq_true (by omega)]
    exact hk
  refine seq_skip (fun k hk => ?_) ?_
  · simp only [rtNot, rTest]
    refine rAll_all (f := fun _ => true) R (noOwn_of (by simp)) (by simp) (fun q' h => ⟨_, rfl, _, .inr rfl, h⟩) (fun d hd q' h => ?_) (by rw [List.all_eq_true.mpr fun _ _ => rfl]; exact ⟨_, rfl, hk⟩)
    simp [wipeE, hR']
    exact ⟨S, R.length, d, rfl, h7 d hd, h4, h⟩
  refine ⟨_, rfl, _, rfl, h8, ?_⟩
  simp [polyD]
  exact hq
end
end Zk

set_option maxHeartbeats 1000000
/-! A2: values. -/
namespace Zk
open PySem PySem.Spec PyProof.Rows L2 GxR TL SX
abbrev s_check_machine : Stmt := top 26
theorem sc_check_machine : FnScope ["machine"] ["machine"] (defScope s_check_machine) := ⟨rfl, rfl, rfl, by decide +kernel, rfl, by decide +kernel, by decide +kernel⟩
abbrev s_check_machine_and_word : Stmt := top 27
theorem sc_check_machine_and_word : FnScope ["machine", "word"] ["machine", "word"] (defScope s_check_machine_and_word) := ⟨rfl, rfl, rfl, by decide +kernel, rfl, by decide +kernel, by decide +kernel⟩
abbrev s_power_of : Stmt := top 16
theorem sc_power_of : FnScope ["number", "exponent", "power", "square", "left"] ["number", "exponent"] (defScope s_power_of) := ⟨rfl, rfl, rfl, by decide +kernel, rfl, by decide +kernel, by decide +kernel⟩
abbrev s_value_at : Stmt := top 15
theorem sc_value_at : FnScope ["poly", "number", "exponent", "coefficient"] ["poly", "number"] (defScope s_value_at) := ⟨rfl, rfl, rfl, by decide +kernel, rfl, by decide +kernel, by decide +kernel⟩
abbrev s_standing_after : Stmt := top 35
theorem sc_standing_after : FnScope ["machine", "standing", "_", "signs", "rules", "state", "head", "cells", "following", "sign", "move", "place"] ["machine", "standing"] (defScope s_standing_after) := ⟨rfl, rfl, rfl, by decide +kernel, rfl, by decide +kernel, by decide +kernel⟩
abbrev s_first_standing : Stmt := top 30
theorem sc_first_standing : FnScope ["machine", "word", "_", "signs", "room", "width", "letters", "letter"] ["machine", "word"] (defScope s_first_standing) := ⟨rfl, rfl, rfl, by decide +kernel, rfl, by decide +kernel, by decide +kernel⟩
section
variable {P : Program} {w : World} {K : PySem.W.Frag} {mg : Str → Option Value} {base : Heap} {f c pt : Addr} {fd : FuncData} {Ta : List Addr}
def RChkM : DFn := fun ds q => ∃ S R ps d, ds = [d] ∧ Mach S R ps d ∧ q .none
theorem ok_chkM (F : Fun K "check_machine" "check_machine" s_check_machine f fd) (T : Blt mg) (C1 : CallD P w K mg base "is_machine" 6 ["thing"] (spD' Ta RMach)) : FnOk P w K mg base CX0 7 f fd ["machine"] (spD' Ta RChkM) := by
  obtain ⟨_, _, G_is_machine, b_is_machine, k_is_machine, m_is_machine⟩ := C1.ex
  refine fn_d (k := 6) kn F sc_check_machine (fun ds q ⟨_, _, _, _, h, _⟩ => by rw [h]; rfl) (by decide) fun cdv A outer s H E hr => ⟨_, (dss_one (ds_if (dt_not (dt_val (dx_call G_is_machine (hr.mono (by omega)) rfl m_is_machine k_is_machine b_is_machine (da_cons (dx_var 0) da_nil)))) (dss_one ds_dead) dss_nil)), fun ds q ⟨S, R, ps, d, h, ok, hq⟩ => ?_⟩
  subst h
  refine ⟨_, rfl, S, R, ps, d, rfl, ok, true, rfl, iteF hq⟩
def RChkMW : DFn := fun ds q => ∃ S R ps d z, ds = [d, .str z] ∧ Mach S R ps d ∧ Low z ∧ q .none
theorem ok_chkMW (F : Fun K "check_machine_and_word" "check_machine_and_word" s_check_machine_and_word f fd) (T : Blt mg) (C1 : CallD P w K mg base "check_machine" 7 ["machine"] (spD' Ta RChkM)) (C2 : CallD P w K mg base "is_word" 3 ["thing"] (spD' Ta RWord)) : FnOk P w K mg base CX0 8 f fd ["machine", "word"] (spD' Ta RChkMW) := by
  obtain ⟨_, _, G_check_machine, b_check_machine, k_check_machine, m_check_machine⟩ := C1.ex
  obtain ⟨_, _, G_is_word, b_is_word, k_is_word, m_is_word⟩ := C2.ex
  refine fn_d (k := 7) kn F sc_check_machine_and_word (fun ds q ⟨_, _, _, _, _, h, _⟩ => by rw [h]; rfl) (by decide) fun cdv A outer s H E hr => ⟨_, (dss_cons (ds_expr (dx_call G_check_machine (hr.mono (by omega)) rfl m_check_machine k_check_machine b_check_machine (da_cons (dx_var 0) da_nil)))
    (dss_one (ds_if (dt_not (dt_val (dx_call G_is_word (hr.mono (by omega)) rfl m_is_word k_is_word b_is_word (da_cons (dx_var 1) da_nil)))) (dss_one ds_dead) dss_nil))), fun ds q ⟨S, R, ps, d, z, h, ok, hz, hq⟩ => ?_⟩
  subst h
  exact ⟨_, rfl, S, R, ps, d, rfl, ok, _, rfl, z, rfl, hz, true, rfl, iteF hq⟩
def RPow : DFn := fun ds q => ∃ n e : Nat, ds = [.int n, .int e] ∧ n ≤ 100 ∧ e ≤ 4 ∧ q (.int ((n : Int) ^ e))
theorem ok_pow (F : Fun K "power_of" "power_of" s_power_of f fd) (T : Blt mg) : FnOk P w K mg base CX0 1 f fd ["number", "exponent"] (spD' Ta RPow) := by
  refine fn_d (k := 0) kn F sc_power_of (fun ds q ⟨_, _, h, _⟩ => by rw [h]; rfl) (by decide) fun cdv A outer s H E hr => ⟨_, (dss_cons (ds_of (ps_set (i := 2) sc_power_of.nd rfl (Or.inl rfl) dx_int) (fun _ _ _ h => h))
    (dss_cons (ds_of (ps_set (i := 3) sc_power_of.nd rfl (Or.inl rfl) (dx_var 0)) (fun _ _ _ h => h))
    (dss_cons (ds_of (ps_set (i := 4) sc_power_of.nd rfl (Or.inl rfl) (dx_var 1)) (fun _ _ _ h => h))
    (dss_cons (ds_while PassesOwn.never (dt_cmp op_gt (opS_bool _) (dx_var 4) dx_int (nomark _)) (dss_cons (ds_if (dt_cmp op_eq opS_eq (dx_op op_mod (opS_intC _ _) (dx_var 4) dx_int) dx_int (nomark _)) (dss_one (ds_of (ps_set (i := 2) sc_power_of.nd rfl (Or.inl rfl) (dx_op op_mul (opS_intC _ _) (dx_var 2) (dx_var 3))) (fun _ _ _ h => h))) dss_nil)
    (dss_cons (ds_of (ps_set (i := 3) sc_power_of.nd rfl (Or.inl rfl) (dx_op op_mul (opS_intC _ _) (dx_var 3) (dx_var 3))) (fun _ _ _ h => h))
    (dss_one (ds_of (ps_set (i := 4) sc_power_of.nd rfl (Or.inl rfl) (dx_op op_fdiv (opS_intC _ _) (dx_var 4) dx_int)) (fun _ _ _ h => h))))))
    (dss_one (ds_ret (dx_var 2))))))), fun ds q ⟨n, e, h, hn, he, hq⟩ => ?_⟩
  subst h
  change rSeq _ _ _ [DV.d _, .d _, .no, .no, .no]
  refine seq_set1 (.int 1) (fun q' h => h) (by simp) ?_
  refine seq_set1 (.int n) (fun q' h => ⟨_, rfl, h⟩) (by simp) ?_
  refine seq_set1 (.int e) (fun q' h => ⟨_, rfl, h⟩) (by simp) ?_
  simp only [List.set_cons_succ, List.set_cons_zero]
  have small : ∀ a : Nat, a ≤ 8 → ((n : Int) ^ a) < 2 ^ 64 ∧ 0 ≤ (n : Int) ^ a := fun a ha => by
    have h1 : n ^ a ≤ 100 ^ 8 := Nat.le_trans (Nat.pow_le_pow_left hn a) (Nat.pow_le_pow_right (by decide) ha)
    have h2 : ((n ^ a : Nat) : Int) = (n : Int) ^ a := by simp
    rw [← h2]
    exact ⟨by have : (100 ^ 8 : Nat) < 2 ^ 64 := by decide
              omega, by omega⟩
  refine ⟨fun m E => ∃ a b l, E = [.d (.int n), .d (.int e), .d (.int ((n : Int) ^ b)), .d (.int ((n : Int) ^ a)), .d (.int ((l : Nat) : Int))] ∧ a * l + b = e ∧ 1 ≤ a ∧ a ≤ 8 ∧ m = l, ⟨e, 1, 0, e, by simp [Int.pow_succ], by omega, by omega, by omega, rfl⟩, ?_⟩
  rintro m E1 ⟨a, b, l, rfl, hab, ha, ha8, rfl⟩
  by_cases hl : m = 0
  · subst hl
    simp
    have : b = e := by omega
    rw [← this] at hq
    exact hq
  · have hbe : b ≤ 4 := by omega
    have hae : a ≤ 4 := by
      have : a * 1 ≤ a * m := Nat.mul_le_mul_left a (by omega)
      omega
    have sb := small b (by omega)
    have sa := small a (by omega)
    have cm1 : CMul ((n : Int) ^ b) ((n : Int) ^ a) := .inl ⟨by omega, sb.1⟩
    have cm2 : CMul ((n : Int) ^ a) ((n : Int) ^ a) := .inl ⟨by omega, sa.1⟩
    have cd : CDiv (m : Int) 2 := ⟨by decide, by decide⟩
    have e1 : (n : Int) ^ a * (n : Int) ^ a = (n : Int) ^ (2 * a) := by rw [← Int.pow_add, Nat.two_mul]
    have e2 : (n : Int) ^ b * (n : Int) ^ a = (n : Int) ^ (b + a) := by rw [← Int.pow_add]
    have e3 : (m : Int) / 2 = ((m / 2 : Nat) : Int) := by omega
    have e4 : 2 * a * (m / 2) = a * (2 * (m / 2)) := by rw [Nat.mul_comm 2 a, Nat.mul_assoc]
    simp
    rw [if_pos (by omega)]
    by_cases ho : (m : Int) % 2 = 1
    · rw [if_pos ho]
      refine ⟨cm1, cm2, cd, m / 2, by omega, 2 * a, b + a, m / 2, ⟨e2, e1, e3⟩, ?_, by omega, by omega, rfl⟩
      have : a * m = a * (2 * (m / 2)) + a := by
        have e5 : m = 2 * (m / 2) + 1 := by omega
        rw [show a * (2 * (m / 2)) + a = a * (2 * (m / 2) + 1) by rw [Nat.mul_add, Nat.mul_one], ← e5]
      omega
    · rw [if_neg ho]
      refine ⟨cm2, cd, m / 2, by omega, 2 * a, b, m / 2, ⟨rfl, e1, e3⟩, ?_, by omega, by omega, rfl⟩
      have e5 : 2 * (m / 2) = m := by omega
      rw [e4, e5]
      exact hab
def RVal : DFn := fun ds q => ∃ (ps : List (Int × Int)) (n : Nat), ds = [polyD ps, .int n] ∧ PolyOk ps ∧ n ≤ 100 ∧ q (.int (polyV ps n))
theorem ok_val (F : Fun K "value_at" "value_at" s_value_at f fd) (T : Blt mg) (C1 : CallD P w K mg base "is_poly" 4 ["thing"] (spD' Ta RPoly)) (C2 : CallD P w K mg base "is_integer" 1 ["thing"] (spD' Ta (RB isIntB))) (C3 : CallD P w K mg base "power_of" 1 ["number", "exponent"] (spD' Ta RPow)) : FnOk P w K mg base CX0 5 f fd ["poly", "number"] (spD' Ta RVal) := by
  obtain ⟨_, _, G_is_poly, b_is_poly, k_is_poly, m_is_poly⟩ := C1.ex
  obtain ⟨_, _, G_is_integer, b_is_integer, k_is_integer, m_is_integer⟩ := C2.ex
  obtain ⟨_, _, G_power_of, b_power_of, k_power_of, m_power_of⟩ := C3.ex
  refine fn_d (k := 4) kn F sc_value_at (fun ds q ⟨_, _, h, _⟩ => by rw [h]; rfl) (by decide) fun cdv A outer s H E hr => ⟨_, (dss_cons (ds_if (dt_not (dt_val (dx_call G_is_poly (hr.mono (by omega)) rfl m_is_poly k_is_poly b_is_poly (da_cons (dx_var 0) da_nil)))) (dss_one ds_dead) dss_nil)
    (dss_cons (ds_if (PW.pt (dw_or (dt_not (dt_val (dx_call G_is_integer (hr.mono (by omega)) rfl m_is_integer k_is_integer b_is_integer (da_cons (dx_var 1) da_nil)))) (dw_or1 (dt_cmp op_lt (opS_bool _) (dx_var 1) dx_int (nomark _))))) (dss_one ds_dead) dss_nil)
    (dss_one (ds_ret (dx_callB (cr_sum rfl) callS_sum (by rfl) T.sum (by decide +kernel) (da_cons (dx_lc (own := [("exponent", 2), ("coefficient", 3)]) rfl sc_value_at.nd (di_seq (dx_var 0)) (blkOk_by (N := ["poly", "number", "exponent", "coefficient"]) (sc := defScope s_value_at) (by decide +kernel)) (fun _ _ _ _ _ => (pg_tup (n := 2) (by rfl) (pgs_cons (pg_name (i := 2) sc_value_at.nd rfl (by first | exact Or.inl rfl | exact Or.inr rfl)) (pgs_cons (pg_name (i := 3) sc_value_at.nd rfl (by first | exact Or.inl rfl | exact Or.inr rfl)) pgs_nil)))) (gs_tup (gss_cons (gs_n 2) (gss_cons (gs_n 3) gss_nil))) (by decide) (fun _ _ _ _ _ => dts_nil) (fun _ _ _ _ _ => (dx_op op_mul (opS_intC _ _) (dx_var 3) (dx_call G_power_of (hr.mono (by omega)) rfl m_power_of k_power_of b_power_of (da_cons (dx_var 1) (da_cons (dx_var 2) da_nil)))))) da_nil)))))), fun ds q ⟨ps, n, h, ok, hn, hq⟩ => ?_⟩
  subst h
  have hl := ok.len
  have hl' : ps.length ≤ sizeLine := Nat.le_trans hl (by decide)
  change rSeq _ _ _ [DV.d _, .d _, .no, .no]
  refine seq_skip (fun k hk => ?_) ?_
  · exact ⟨_, rfl, ps, rfl, ok, true, rfl, hk⟩
  refine seq_skip (fun k hk => ?_) ?_
  · simp [RB, isIntB]
    rw [decide_eq_false (by omega)]
    exact hk
  simp only [rRet, rCall, raCons, raNil]
  refine rLc_mapG (g := fun d => match d with | .tuple [.int x, .int y] => .int (y * (n : Int) ^ x.toNat) | _ => .none) (ps.map fun p => PyData.tuple [.int p.1, .int p.2]) (noOwn_of (by simp)) (by rw [List.length_map]; exact hl') (fun q' h => ⟨_, rfl, _, .inr rfl, h⟩) (fun d hd q' h => ?_) ?_
  · obtain ⟨p, hp, rfl⟩ := List.mem_map.mp hd
    dsimp only at h
    have h1 := ok.exp p hp
    have h2 := ok.co p hp
    obtain ⟨e, he⟩ : ∃ e : Nat, p.1 = (e : Int) := ⟨p.1.toNat, by omega⟩
    rw [he] at h ⊢
    simp [wipeE, and_assoc]
    refine ⟨n, e, rfl, hn, by omega, _, rfl, .inl ⟨by omega, by omega⟩, ?_⟩
    simpa using h
  · refine ⟨ps.map fun p => p.2 * (n : Int) ^ p.1.toNat, ?_, ?_⟩
    · rw [List.map_map, List.map_map]
      rfl
    · have e : ∀ l : List (Int × Int), (l.map fun p => p.2 * (n : Int) ^ p.1.toNat).sum = polyV l n := fun l => by
        induction l with
        | nil => rfl
        | cons p l ih => rw [List.map_cons, List.sum_cons, ih]; rfl
      rw [e]
      exact hq
def RNext : DFn := fun ds q => ∃ S R ps d s h z, ds = [d, standD s h z] ∧ Mach S R ps d ∧ Stand S R.length z.length s h z ∧ z.length ≤ 1000 ∧ q (nextD S R s h z)
theorem ok_after (F : Fun K "standing_after" "standing_after" s_standing_after f fd) (T : Blt mg) : FnOk P w K mg base CX0 1 f fd ["machine", "standing"] (spD' Ta RNext) := by
  refine fn_d (k := 0) kn F sc_standing_after (fun ds q ⟨_, _, _, _, _, _, _, h, _⟩ => by rw [h]; rfl) (by decide) fun cdv A outer s H E hr => ⟨_, (dss_cons (ds_asg (ps_asg (dx_var 0) (pg_tup (n := 4) (by rfl) (pgs_cons (pg_name (i := 2) sc_standing_after.nd rfl (Or.inl rfl)) (pgs_cons (pg_name (i := 3) sc_standing_after.nd rfl (Or.inl rfl)) (pgs_cons (pg_name (i := 4) sc_standing_after.nd rfl (Or.inl rfl)) (pgs_cons (pg_name (i := 2) sc_standing_after.nd rfl (Or.inl rfl)) pgs_nil)))))) (gs_tup (gss_cons (gs_n 2) (gss_cons (gs_n 3) (gss_cons (gs_n 4) (gss_cons (gs_n 2) gss_nil))))))
    (dss_cons (ds_asg (ps_asg (dx_var 1) (pg_tup (n := 3) (by rfl) (pgs_cons (pg_name (i := 5) sc_standing_after.nd rfl (Or.inl rfl)) (pgs_cons (pg_name (i := 6) sc_standing_after.nd rfl (Or.inl rfl)) (pgs_cons (pg_name (i := 7) sc_standing_after.nd rfl (Or.inl rfl)) pgs_nil))))) (gs_tup (gss_cons (gs_n 5) (gss_cons (gs_n 6) (gss_cons (gs_n 7) gss_nil)))))
    (dss_cons (ds_if (dt_cmp op_ge (opS_bool _) (dx_var 5) (dx_callB call_len callS_len (by rfl) T.len PySem.boot_len (da_cons (dx_var 4) da_nil)) (nomark _)) (dss_one (ds_ret (dx_var 1))) dss_nil)
    (dss_cons (ds_asg (ps_asg (dx_ix ix_A opS_ix (dx_ix ix_A opS_ix (dx_var 4) (dx_var 5) (fun _ _ => rfl)) (dx_ms PySem.F.slot_str_find PySem.F.type_str_find mt_find ms_find (dx_var 3) (da_cons (dx_ix ix_A opS_ix (dx_var 7) (dx_var 6) (fun _ _ => rfl)) da_nil)) (fun _ _ => rfl)) (pg_tup (n := 3) (by rfl) (pgs_cons (pg_name (i := 8) sc_standing_after.nd rfl (Or.inl rfl)) (pgs_cons (pg_name (i := 9) sc_standing_after.nd rfl (Or.inl rfl)) (pgs_cons (pg_name (i := 10) sc_standing_after.nd rfl (Or.inl rfl)) pgs_nil))))) (gs_tup (gss_cons (gs_n 8) (gss_cons (gs_n 9) (gss_cons (gs_n 10) gss_nil)))))
    (dss_cons (ds_of (ps_set (i := 11) sc_standing_after.nd rfl (Or.inl rfl) (dx_callB (call_max2 rfl) (callS_int2 _) (by rfl) T.max (by decide +kernel) (da_cons dx_int (da_cons (dx_callB (call_min2 rfl) (callS_int2 _) (by rfl) T.min (by decide +kernel) (da_cons (dx_op op_add (opS_int _) (dx_var 6) (dx_var 10)) (da_cons (dx_op op_sub (opS_int _) (dx_callB call_len callS_len (by rfl) T.len PySem.boot_len (da_cons (dx_var 7) da_nil)) dx_int) da_nil))) da_nil)))) (fun _ _ _ h => h))
    (dss_one (ds_ret (dx_tup (da_cons (dx_var 8) (da_cons (dx_var 11) (da_cons (dx_op op_add_str opS_cat (dx_op op_add_str opS_cat (dx_sl (dx_var 7) do_n (do_s (dx_var 6))) (dx_var 9)) (dx_sl (dx_var 7) (do_s (dx_op op_add (opS_int _) (dx_var 6) dx_int)) do_n)) da_nil))))))))))), fun ds q ⟨S, R, ps, d, s', h', z, h, ok, hs, hz, hq⟩ => ?_⟩
  subst h
  have hS' : S.length ≤ sizeLine := Nat.le_trans ok.s26 (by decide)
  have hR' : R.length ≤ sizeLine := Nat.le_trans ok.r24 (by decide)
  have hz' : z.length ≤ sizeLine := Nat.le_trans hz (by decide)
  have ok' := ok
  obtain ⟨rfl, h1, h2, h3, h4, h5, h6, h7, h8, h9⟩ := ok
  change rSeq _ _ _ [DV.d _, .d (.tuple [.int s', .int h', .str z]), .no, .no, .no, .no, .no, .no, .no, .no, .no, .no]
  refine ⟨_, rfl, _, rfl, rfl, _, _, rfl, by simp, _, _, rfl, by simp, _, _, rfl, by simp, _, _, rfl, by simp, rfl, ?_⟩
  refine ⟨_, rfl, _, rfl, rfl, _, _, rfl, by simp, _, _, rfl, by simp, _, _, rfl, by simp, rfl, ?_⟩
  simp only [List.set_cons_succ, List.set_cons_zero]
  by_cases hh : R.length ≤ s'
  · refine seq_take (fun k hk => ?_) ?_
    · simp [hR']
      rw [decide_eq_true (by omega)]
      exact hk
    have e : nextD S R s' h' z = standD s' h' z := if_pos hh
    rw [e] at hq
    exact ⟨_, rfl, hq⟩
  refine seq_skip (fun k hk => ?_) ?_
  · simp [hR']
    rw [decide_eq_false (by omega)]
    exact hk
  obtain ⟨rs, i, a, x, v, y, e1, e2, e3, e4, e5, r1, r2, r3, r4, e6⟩ := next_of ok' hs (by omega)
  rw [e6] at hq
  refine seq_asgP (fun d => d = .tuple [.int a, .str ⟨#[x]⟩, .int v]) (fun q' h => ?_) ?_
  · simp [hS', hz', and_assoc]
    refine ⟨_, atI_nat e1, y, atI_nat e2, ?_⟩
    rw [e4]
    exact ⟨(i : Int), rfl, .inl ⟨rs, _, .inr rfl, atI_nat e5, h _ rfl⟩⟩
  rintro _ rfl
  refine ⟨_, rfl, rfl, _, _, rfl, by simp, _, _, rfl, by simp, _, _, rfl, by simp, rfl, ?_⟩
  simp only [List.set_cons_succ, List.set_cons_zero]
  have em : ∀ X Y : Int, (if (if Y < X then Y else X) > 0 then (if Y < X then Y else X) else 0) = max 0 (min X Y) := fun X Y => by
    split <;> split <;> omega
  refine seq_set1 (.int (max 0 (min ((h' : Int) + v) ((z.length : Int) - 1)))) (fun q' h => ?_) (by simp) ?_
  · simp [hz', and_assoc]
    rw [← em] at h
    simpa using h
  simp only [List.set_cons_succ, List.set_cons_zero]
  have n1 : (cutS z none (some (h' : Int))).length ≤ 1000 := by rw [str_len, cutTo, List.length_take, ← str_len]; omega
  have n2 : (cutS z (some ((h' : Int) + 1)) none).length ≤ 1000 := by
    rw [show (h' : Int) + 1 = ((h' + 1 : Nat) : Int) by omega, str_len, cutFrom, List.length_drop, ← str_len]
    omega
  have n3 : (⟨#[x]⟩ : Str).length = 1 := rfl
  have line : ∀ n : Nat, n ≤ 10000 → n ≤ sizeLine := fun n h => Nat.le_trans h (by decide)
  simp
  exact ⟨hz', line _ (by omega), hz', line _ (by rw [len_cat]; omega), by decide, hq⟩
def fl (S : Str) (c : Nat) : Nat := if c ∈ S.cps.toList then c else S.cps.toList.getD 0 0
def flD (S : Str) : PyData → PyData
  | .str s => .str ⟨#[fl S (s.cps.toList.headD 0)]⟩
  | d => d
theorem fl_map (S : Str) (l : List Nat) : (l.map fun c => PyData.str ⟨#[c]⟩).map (flD S) = ((l.map (fl S)).map one).map PyData.str := by
  rw [List.map_map, List.map_map, List.map_map]
  rfl
theorem fl_at {S : Str} {x : Nat} (h : 0 < S.length) {q : PyData → Prop} (hq : q (.str ⟨#[fl S x]⟩)) : if x ∈ S.cps then q (.str ⟨#[x]⟩) else ∃ c, L2.atI S.cps.toList 0 = some c ∧ q (.str ⟨#[c]⟩) := by
  unfold fl at hq
  by_cases hx : x ∈ S.cps
  · rw [if_pos hx]
    rw [if_pos (by simpa using hx)] at hq
    exact hq
  · rw [if_neg hx]
    rw [if_neg (by simpa using hx)] at hq
    have h0 : 0 < S.cps.toList.length := by rw [← str_len]; exact h
    refine ⟨S.cps.toList[0], atI_nat (j := 0) (List.getElem?_eq_getElem h0), ?_⟩
    rw [List.getD_eq_getElem?_getD, List.getElem?_eq_getElem h0] at hq
    exact hq
def firstT (S : Str) (w : Nat) (z : Str) : Str := ⟨((z.cps.toList.take w).map (fl S) ++ List.replicate (w - z.length) (S.cps.toList.getD 0 0)).toArray⟩
theorem onesSum : ∀ l : List Nat, ((l.map one).map (fun z => z.length)).sum = l.length
  | [] => rfl
  | c :: l => by
    rw [List.map_cons, List.map_cons, List.sum_cons, onesSum l, List.length_cons]
    have : (one c).length = 1 := rfl
    omega
theorem first_eq (S : Str) (n : Nat) (z : Str) : Txt.ljustF (Txt.join "" (((z.cps.toList.take n).map (fl S)).map one)) (n : Int) (S.cps.toList.getD 0 0) = firstT S n z := by
  rw [join_ones]
  have e := str_len z
  generalize hx : SX.S ((z.cps.toList.take n).map (fl S)) = x
  have ex : x.cps.toList = (z.cps.toList.take n).map (fl S) := by rw [← hx]
  have el : x.length = min n z.length := by rw [str_len, ex, List.length_map, List.length_take, e]
  refine str_ext ?_
  unfold Txt.ljustF firstT
  by_cases h : (n : Int) ≤ x.length
  · rw [if_pos h, ex, show n - z.length = 0 by omega]
    simp
  · rw [if_neg h]
    unfold Builtin.Str.padded
    rw [show (n : Int).toNat - x.length = n - z.length by omega]
    simp [ex]
def RFirst : DFn := fun ds q => ∃ S R ps d z, ∃ n : Nat, ds = [d, .str z] ∧ Mach S R ps d ∧ Low z ∧ z.length ≤ 100 ∧ polyV ps z.length = (n : Int) ∧ 1 ≤ n ∧ n ≤ 1000 ∧ q (standD 0 0 (firstT S n z))
theorem ok_first (F : Fun K "first_standing" "first_standing" s_first_standing f fd) (T : Blt mg) (C1 : CallD P w K mg base "check_machine_and_word" 8 ["machine", "word"] (spD' Ta RChkMW)) (C2 : CallD P w K mg base "value_at" 5 ["poly", "number"] (spD' Ta RVal)) : FnOk P w K mg base CX0 9 f fd ["machine", "word"] (spD' Ta RFirst) := by
  obtain ⟨_, _, G_check_machine_and_word, b_check_machine_and_word, k_check_machine_and_word, m_check_machine_and_word⟩ := C1.ex
  obtain ⟨_, _, G_value_at, b_value_at, k_value_at, m_value_at⟩ := C2.ex
  refine fn_d (k := 8) kn F sc_first_standing (fun ds q ⟨_, _, _, _, _, _, h, _⟩ => by rw [h]; rfl) (by decide) fun cdv A outer s H E hr => ⟨_, (dss_cons (ds_expr (dx_call G_check_machine_and_word (hr.mono (by omega)) rfl m_check_machine_and_word k_check_machine_and_word b_check_machine_and_word (da_cons (dx_var 0) (da_cons (dx_var 1) da_nil))))
    (dss_cons (ds_asg (ps_asg (dx_var 0) (pg_tup (n := 4) (by rfl) (pgs_cons (pg_name (i := 2) sc_first_standing.nd rfl (Or.inl rfl)) (pgs_cons (pg_name (i := 3) sc_first_standing.nd rfl (Or.inr rfl)) (pgs_cons (pg_name (i := 2) sc_first_standing.nd rfl (Or.inl rfl)) (pgs_cons (pg_name (i := 4) sc_first_standing.nd rfl (Or.inl rfl)) pgs_nil)))))) (gs_tup (gss_cons (gs_n 2) (gss_cons (gs_n 3) (gss_cons (gs_n 2) (gss_cons (gs_n 4) gss_nil))))))
    (dss_cons (ds_of (ps_set (i := 5) sc_first_standing.nd rfl (Or.inl rfl) (dx_call G_value_at (hr.mono (by omega)) rfl m_value_at k_value_at b_value_at (da_cons (dx_var 4) (da_cons (dx_callB call_len callS_len (by rfl) T.len PySem.boot_len (da_cons (dx_var 1) da_nil)) da_nil)))) (fun _ _ _ h => h))
    (dss_cons (ds_of (ps_setLc (i := 6) (own := [("letter", 7)]) rfl sc_first_standing.nd rfl rfl rfl (di_str (dx_sl (dx_var 1) do_n (do_s (dx_var 5)))) (blkOk_by (N := ["machine", "word", "_", "signs", "room", "width", "letters", "letter"]) (sc := defScope s_first_standing) (by decide +kernel)) (fun _ _ _ _ _ => (pg_name (i := 7) sc_first_standing.nd rfl (by first | exact Or.inl rfl | exact Or.inr rfl))) (fun _ _ _ _ _ => dts_nil) (fun _ _ _ _ _ => (dx_if (dt_cmp op_in_sign opS_in (dx_var 7) (dx_var 3) (by rfl)) (dx_var 7) (dx_ix ix_A opS_ix (dx_var 3) dx_int (fun _ _ => rfl))))) (lc_run (gs_n 7) (by decide)))
    (dss_one (ds_ret (dx_tup (da_cons dx_int (da_cons dx_int (da_cons (dx_ms PySem.F.slot_str_ljust PySem.F.type_str_ljust mt_ljust2 ms_ljust (dx_ms PySem.F.slot_str_join PySem.F.type_str_join mt_join ms_join dx_str (da_cons (dx_var 6) da_nil)) (da_cons (dx_var 5) (da_cons (dx_ix ix_A opS_ix (dx_var 3) dx_int (fun _ _ => rfl)) da_nil))) da_nil)))))))))), fun ds q ⟨S, R, ps, d, z, n, h, ok, hz, hl, hv, n1, n2, hq⟩ => ?_⟩
  subst h
  have hS' : S.length ≤ sizeLine := Nat.le_trans ok.s26 (by decide)
  have hz' : z.length ≤ sizeLine := Nat.le_trans hl (by decide)
  have ok' := ok
  obtain ⟨rfl, h1, h2, h3, h4, h5, h6, h7, h8, h9⟩ := ok
  change rSeq _ _ _ [DV.d _, .d _, .no, .no, .no, .no, .no, .no]
  refine ⟨_, rfl, _, rfl, S, R, ps, _, z, rfl, ok', hz, ?_⟩
  refine ⟨_, rfl, _, rfl, rfl, _, _, rfl, by simp, _, _, rfl, by simp, _, _, rfl, by simp, _, _, rfl, by simp, rfl, ?_⟩
  simp only [List.set_cons_succ, List.set_cons_zero]
  refine seq_set1 (.int n) (fun q' h => ?_) (by simp) ?_
  · simp [hz']
    exact ⟨ps, z.length, rfl, h8, hl, by rw [hv]; exact h⟩
  simp only [List.set_cons_succ, List.set_cons_zero]
  have hS0 : 0 < S.length := by omega
  have es : signsD (cutS z none (some (n : Int))) = (z.cps.toList.take n).map fun c => PyData.str ⟨#[c]⟩ := by
    unfold signsD
    rw [cutTo]
  have hlen : (z.cps.toList.take n).length ≤ 100 := by
    rw [List.length_take, ← str_len]
    omega
  refine seq_set1 (.list ((((z.cps.toList.take n).map (fl S)).map one).map PyData.str)) (fun q' h => ?_) (by simp) ?_
  · rw [← fl_map, ← es] at h
    refine rLc_map (g := flD S) (signsD (cutS z none (some (n : Int)))) (noOwn_of (by simp)) (by simp) ?_ (fun q'' h'' => ?_) (fun d hd q'' h'' => ?_) h
    · rw [es, List.length_map]
      exact Nat.le_trans hlen (by decide)
    · simp
      exact ⟨hz', h''⟩
    · obtain ⟨x, hx, rfl⟩ := List.mem_map.mp hd
      simp [wipeE, hS']
      exact fl_at hS0 h''
  simp only [List.set_cons_succ, List.set_cons_zero]
  have h0 : 0 < S.cps.toList.length := by rw [← str_len]; exact hS0
  simp [hS', -List.map_take, -List.map_map]
  refine ⟨_, rfl, ?_, _, atI_nat (j := 0) (List.getElem?_eq_getElem h0), _, _, ⟨rfl, rfl⟩, by omega, by omega, by decide, ?_⟩
  · rw [onesSum, List.length_map, List.length_map, show ("" : Str).length = 0 from rfl]
    omega
  · have e : S.cps.toList[0] = S.cps.toList.getD 0 0 := by rw [List.getD_eq_getElem?_getD, List.getElem?_eq_getElem h0]; rfl
    rw [e, first_eq]
    exact hq
end
end Zk

set_option maxHeartbeats 1000000
/-! A3: standings that are passed. -/
namespace Zk
open PySem PySem.Spec PyProof.Rows L2 GxR TL SX
abbrev s_is_of_machine : Stmt := top 32
theorem sc_is_of_machine : FnScope ["machine", "thing", "_", "rules", "state", "head", "cells", "signs", "sign"] ["machine", "thing"] (defScope s_is_of_machine) := ⟨rfl, rfl, rfl, by decide +kernel, rfl, by decide +kernel, by decide +kernel⟩
abbrev s_check_standing : Stmt := top 33
theorem sc_check_standing : FnScope ["machine", "standing"] ["machine", "standing"] (defScope s_check_standing) := ⟨rfl, rfl, rfl, by decide +kernel, rfl, by decide +kernel, by decide +kernel⟩
abbrev s_next_standing : Stmt := top 34
theorem sc_next_standing : FnScope ["machine", "standing"] ["machine", "standing"] (defScope s_next_standing) := ⟨rfl, rfl, rfl, by decide +kernel, rfl, by decide +kernel, by decide +kernel⟩
section
variable {P : Program} {w : World} {K : PySem.W.Frag} {mg : Str → Option Value} {base : Heap} {f c pt : Addr} {fd : FuncData} {Ta : List Addr}
def RIsOf : DFn := fun ds q => ∃ S R ps d t, ds = [d, t] ∧ Mach S R ps d ∧ sz t ≤ sizeLine ∧ q (.bool (isOfB S R.length t))
theorem ok_isOf (F : FunD K "is_of_machine" "is_of_machine" s_is_of_machine f fd c) (TB : TabB base mg c pt) (hT : pt ∈ Ta) (T : Blt mg) (C1 : CallD P w K mg base "is_integer" 1 ["thing"] (spD' Ta (RB isIntB))) : FnOk P w K mg base CX0 2 f fd ["machine", "thing"] (spD' Ta RIsOf) := by
  obtain ⟨_, _, G_is_integer, b_is_integer, k_is_integer, m_is_integer⟩ := C1.ex
  refine fn_dC (k := 1) kn F sc_is_of_machine (fun ds q ⟨_, _, _, _, _, h, _⟩ => by rw [h]; rfl) (by decide) fun A outer s H E hr => ⟨_, (dss_cons (ds_if (PW.pt (dw_or (dt_not (dt_val (dx_is .tuple (dx_var 1) (by rfl) T.isinstance (by rfl) T.tuple (by decide +kernel)))) (dw_or1 (dt_cmp op_ne opS_ne (dx_callB call_len callS_len (by rfl) T.len PySem.boot_len (da_cons (dx_var 1) da_nil)) dx_int (nomark _))))) (dss_one (ds_ret dx_bl)) dss_nil)
    (dss_cons (ds_asg (ps_asg (dx_var 0) (pg_tup (n := 4) (by rfl) (pgs_cons (pg_name (i := 2) sc_is_of_machine.nd rfl (Or.inl rfl)) (pgs_cons (pg_name (i := 7) sc_is_of_machine.nd rfl (Or.inr rfl)) (pgs_cons (pg_name (i := 3) sc_is_of_machine.nd rfl (Or.inl rfl)) (pgs_cons (pg_name (i := 2) sc_is_of_machine.nd rfl (Or.inl rfl)) pgs_nil)))))) (gs_tup (gss_cons (gs_n 2) (gss_cons (gs_n 7) (gss_cons (gs_n 3) (gss_cons (gs_n 2) gss_nil))))))
    (dss_cons (ds_asg (ps_asg (dx_var 1) (pg_tup (n := 3) (by rfl) (pgs_cons (pg_name (i := 4) sc_is_of_machine.nd rfl (Or.inl rfl)) (pgs_cons (pg_name (i := 5) sc_is_of_machine.nd rfl (Or.inl rfl)) (pgs_cons (pg_name (i := 6) sc_is_of_machine.nd rfl (Or.inl rfl)) pgs_nil))))) (gs_tup (gss_cons (gs_n 4) (gss_cons (gs_n 5) (gss_cons (gs_n 6) gss_nil)))))
    (dss_cons (ds_if (PW.pt (dw_or (dt_not (dt_val (dx_is .str (dx_var 6) (by rfl) T.isinstance (by rfl) T.str (by decide +kernel)))) (dw_or1 (dt_not (dt_val (dx_all (own := [("sign", 8)]) hr (by rfl) T.all TB hT rfl sc_is_of_machine.nd (gxOk_by (N := ["machine", "thing", "_", "rules", "state", "head", "cells", "signs", "sign"]) (sc := defScope s_is_of_machine) (by decide +kernel)) (di_str (dx_var 6)) (gs_n 8) (by decide) (fun _ _ _ _ _ _ _ _ hr => (pg_name (i := 8) sc_is_of_machine.nd rfl (by first | exact Or.inl rfl | exact Or.inr rfl))) (fun _ _ _ _ _ _ _ _ hr => dts_nil) (fun _ _ _ _ _ _ _ _ hr => (dx_cmp op_in_sign opS_in (dx_var 8) (dx_var 7) (by rfl))))))))) (dss_one (ds_ret dx_bl)) dss_nil)
    (dss_cons (ds_if (PW.pt (dw_or (dt_not (dt_val (dx_call G_is_integer (hr.mono (by omega)) rfl m_is_integer k_is_integer b_is_integer (da_cons (dx_var 4) da_nil)))) (dw_or1 (dt_not (dt_val (dx_call G_is_integer (hr.mono (by omega)) rfl m_is_integer k_is_integer b_is_integer (da_cons (dx_var 5) da_nil))))))) (dss_one (ds_ret dx_bl)) dss_nil)
    (dss_one (ds_ret (dx_and (dx_chain op_le op_le (opS_bool _) (opS_bool _) dx_int (dx_var 4) (dx_op op_add (opS_int _) (dx_callB call_len callS_len (by rfl) T.len PySem.boot_len (da_cons (dx_var 3) da_nil)) dx_int)) (dx_one (dx_chain op_le op_lt (opS_bool _) (opS_bool _) dx_int (dx_var 5) (dx_callB call_len callS_len (by rfl) T.len PySem.boot_len (da_cons (dx_var 6) da_nil)))))))))))), fun ds q ⟨S, R, ps, d, t, h, ok, ht, hq⟩ => ?_⟩
  subst h
  obtain ⟨rfl, h1, h2, h3, h4, h5, h6, h7, h8, h9⟩ := ok
  have hR' : R.length ≤ sizeLine := Nat.le_trans h6 (by decide)
  change rSeq _ _ _ [DV.d _, .d _, .no, .no, .no, .no, .no, .no, .no]
  cases t with
  | tuple xs =>
    have hx := tupLen ht
    by_cases h3 : xs.length = 3
    · obtain ⟨a, b, cl, rfl⟩ : ∃ a b cl, xs = [a, b, cl] := by
        match xs, h3 with
        | [a, b, cl], _ => exact ⟨_, _, _, rfl⟩
      have hcl : sz cl ≤ sizeLine := by simp only [sz, szAll] at ht; omega
      refine seq_skip (fun k hk => ?_) ?_
      · simp [isTupD, lenD]
        exact ⟨by decide, hk⟩
      refine ⟨_, rfl, _, rfl, rfl, _, _, rfl, by simp, _, _, rfl, by simp, _, _, rfl, by simp, _, _, rfl, by simp, rfl, ?_⟩
      refine ⟨_, rfl, _, rfl, rfl, _, _, rfl, by simp, _, _, rfl, by simp, _, _, rfl, by simp, rfl, ?_⟩
      simp only [List.set_cons_succ, List.set_cons_zero]
      have other : isStrD cl = false → isOfB S R.length (.tuple [a, b, cl]) = false := fun h => by
        cases cl <;> first | (simp [isStrD] at h; done) | (cases a <;> cases b <;> rfl)
      cases hs : isStrD cl with
      | false =>
        rw [other hs] at hq
        refine seq_take (fun k hk => ?_) hq
        simpa [hs] using hk
      | true =>
        obtain ⟨z, rfl⟩ : ∃ z, cl = .str z := by
          cases cl with
          | str z => exact ⟨z, rfl⟩
          | _ => simp [isStrD] at hs
        have hz := strLen_sz hcl
        have al : ∀ k : PyData → Prop, k (.bool (z.cps.toList.all fun c => decide (c ∈ S.cps.toList))) → rAll true (List.map (fun x => x.snd) [(("sign" : Str), 8)]) (riStr (rV 6)) (rgN 8) rtYes (rOp (gIn false) (rV 8) (rV 7)) [.d (.tuple [.str "machine", .str S, .tuple R, polyD ps]), .d (.tuple [a, b, .str z]), .d (polyD ps), .d (.tuple R), .d a, .d b, .d (.str z), .d (.str S), .no] k := fun k hk => by
          refine rAll_all (f := fun d => match d with | .str s => s.cps.toList.all fun c => decide (c ∈ S.cps.toList) | _ => false) (signsD z) (noOwn_of (by simp)) (by simp) (fun q' h => ⟨_, rfl, z, rfl, h⟩) (fun d hd q' h => ?_) ?_
          · obtain ⟨x, hx, rfl⟩ := List.mem_map.mp hd
            simp [wipeE]
            simpa using h
          · unfold signsD
            rw [List.all_map]
            have e : ((fun d => match d with | .str s => s.cps.toList.all fun c => decide (c ∈ S.cps.toList) | _ => false) ∘ fun (c : Nat) => PyData.str ⟨#[c]⟩) = fun c => decide (c ∈ S.cps.toList) := funext fun c => by simp
            rw [e]
            exact hk
        have ez : isOfB S R.length (.tuple [a, b, .str z]) = ((z.cps.toList.all fun c => decide (c ∈ S.cps.toList)) && isOfB S R.length (.tuple [a, b, .str z])) := by
          unfold isOfB
          split
          · next heq =>
            cases heq
            cases (z.cps.toList.all fun c => decide (c ∈ S.cps.toList)) <;> rfl
          · simp
        cases hA : (z.cps.toList.all fun c => decide (c ∈ S.cps.toList)) with
        | false =>
          rw [ez, hA] at hq
          refine seq_take (fun k hk => ?_) hq
          refine ⟨_, rfl, true, rfl, iteF ?_⟩
          exact al (fun d => ∃ b, d = PyData.bool b ∧ k (!b)) ⟨false, by rw [hA], hk⟩
        | true =>
          refine seq_skip (fun k hk => ?_) ?_
          · refine ⟨_, rfl, true, rfl, iteF ?_⟩
            exact al (fun d => ∃ b, d = PyData.bool b ∧ k (!b)) ⟨true, by rw [hA], hk⟩
          have no : (isIntB a && isIntB b) = false → isOfB S R.length (.tuple [a, b, .str z]) = false := fun h => by
            unfold isOfB
            split
            · next heq =>
              cases heq
              simp [isIntB] at h
            · rfl
          cases hi : (isIntB a && isIntB b) with
          | false =>
            rw [no hi] at hq
            refine seq_take (fun k hk => ?_) hq
            simp [RB]
            cases ha : isIntB a with
            | false => simpa using hk
            | true =>
              rw [ha] at hi
              have hb : isIntB b = false := by simpa using hi
              simpa [hb] using hk
          | true =>
            rw [Bool.and_eq_true] at hi
            obtain ⟨i, rfl⟩ : ∃ i, a = .int i := by
              cases a with
              | int i => exact ⟨i, rfl⟩
              | _ => simp [isIntB] at hi
            obtain ⟨j, rfl⟩ : ∃ j, b = .int j := by
              cases b with
              | int j => exact ⟨j, rfl⟩
              | _ => simp [isIntB] at hi
            refine seq_skip (fun k hk => ?_) ?_
            · simp [RB, isIntB]
              exact hk
            have eq : isOfB S R.length (.tuple [.int i, .int j, .str z]) = decide (0 ≤ i ∧ i ≤ (R.length : Int) + 1 ∧ 0 ≤ j ∧ j < (z.length : Int)) := by
              show ((z.cps.toList.all fun c => decide (c ∈ S.cps.toList)) && _) = _
              rw [hA]
              simp
            rw [eq] at hq
            simp [hR', hz]
            by_cases q1 : 0 ≤ i
            · by_cases q2 : i ≤ (R.length : Int) + 1
              · by_cases q3 : 0 ≤ j
                · by_cases q4 : j < (z.length : Int)
                  · simpa [q1, q2, q3, q4] using hq
                  · simpa [q1, q2, q3, q4] using hq
                · simpa [q1, q2, q3] using hq
              · simpa [q1, q2] using hq
            · simpa [q1] using hq
    · have e : isOfB S R.length (.tuple xs) = false := by
        unfold isOfB
        split
        · next heq =>
          cases heq
          exact absurd rfl h3
        · rfl
      rw [e] at hq
      refine seq_take (fun k hk => ?_) hq
      simp [isTupD, lenD, hx]
      exact .inr ⟨by omega, hk⟩
  | _ =>
    refine seq_take (fun k hk => by simpa [isTupD] using hk) hq
def RChkS : DFn := fun ds q => ∃ S R ps d t, ds = [d, t] ∧ Mach S R ps d ∧ sz t ≤ sizeLine ∧ isOfB S R.length t = true ∧ q .none
theorem ok_chkS (F : Fun K "check_standing" "check_standing" s_check_standing f fd) (T : Blt mg) (C1 : CallD P w K mg base "check_machine" 7 ["machine"] (spD' Ta RChkM)) (C2 : CallD P w K mg base "is_of_machine" 2 ["machine", "thing"] (spD' Ta RIsOf)) : FnOk P w K mg base CX0 8 f fd ["machine", "standing"] (spD' Ta RChkS) := by
  obtain ⟨_, _, G_check_machine, b_check_machine, k_check_machine, m_check_machine⟩ := C1.ex
  obtain ⟨_, _, G_is_of_machine, b_is_of_machine, k_is_of_machine, m_is_of_machine⟩ := C2.ex
  refine fn_d (k := 7) kn F sc_check_standing (fun ds q ⟨_, _, _, _, _, h, _⟩ => by rw [h]; rfl) (by decide) fun cdv A outer s H E hr => ⟨_, (dss_cons (ds_expr (dx_call G_check_machine (hr.mono (by omega)) rfl m_check_machine k_check_machine b_check_machine (da_cons (dx_var 0) da_nil)))
    (dss_one (ds_if (dt_not (dt_val (dx_call G_is_of_machine (hr.mono (by omega)) rfl m_is_of_machine k_is_of_machine b_is_of_machine (da_cons (dx_var 0) (da_cons (dx_var 1) da_nil))))) (dss_one ds_dead) dss_nil))), fun ds q ⟨S, R, ps, d, t, h, ok, ht, hb, hq⟩ => ?_⟩
  subst h
  exact ⟨_, rfl, S, R, ps, d, rfl, ok, _, rfl, _, rfl, S, R, ps, d, t, rfl, ok, ht, _, rfl, by rw [hb]; exact iteF hq⟩
def RNextP : DFn := RNext
theorem ok_next (F : Fun K "next_standing" "next_standing" s_next_standing f fd) (T : Blt mg) (C1 : CallD P w K mg base "check_standing" 8 ["machine", "standing"] (spD' Ta RChkS)) (C2 : CallD P w K mg base "standing_after" 1 ["machine", "standing"] (spD' Ta RNext)) : FnOk P w K mg base CX0 9 f fd ["machine", "standing"] (spD' Ta RNext) := by
  obtain ⟨_, _, G_check_standing, b_check_standing, k_check_standing, m_check_standing⟩ := C1.ex
  obtain ⟨_, _, G_standing_after, b_standing_after, k_standing_after, m_standing_after⟩ := C2.ex
  refine fn_d (k := 8) kn F sc_next_standing (fun ds q ⟨_, _, _, _, _, _, _, h, _⟩ => by rw [h]; rfl) (by decide) fun cdv A outer s H E hr => ⟨_, (dss_cons (ds_expr (dx_call G_check_standing (hr.mono (by omega)) rfl m_check_standing k_check_standing b_check_standing (da_cons (dx_var 0) (da_cons (dx_var 1) da_nil))))
    (dss_one (ds_ret (dx_call G_standing_after (hr.mono (by omega)) rfl m_standing_after k_standing_after b_standing_after (da_cons (dx_var 0) (da_cons (dx_var 1) da_nil)))))), fun ds q ⟨S, R, ps, d, s', h', z, h, ok, hs, hz, hq⟩ => ?_⟩
  subst h
  refine ⟨_, rfl, _, rfl, S, R, ps, d, standD s' h' z, rfl, ok, ?_, standD_is hs, ?_⟩
  · have : sz (standD s' h' z) ≤ 100000 := by
      simp only [standD, sz, szAll]
      have b1 : (s' : Int).natAbs.log2 ≤ s' := Nat.le_trans (Nat.log2_le_self _) (by omega)
      have b2 : (h' : Int).natAbs.log2 ≤ h' := Nat.le_trans (Nat.log2_le_self _) (by omega)
      have := hs.s0
      have := hs.h0
      have := ok.r24
      omega
    exact Nat.le_trans this (by decide)
  · exact ⟨_, rfl, _, rfl, S, R, ps, d, s', h', z, rfl, ok, hs, hz, hq⟩
end
end Zk

set_option maxHeartbeats 1000000
/-! B4: the law's own standings. -/
namespace Zk
open PySem PySem.Spec PyProof.Rows L2 GxR TL SX
abbrev s_law_value : Stmt := top 40
theorem sc_law_value : FnScope ["poly", "n", "found", "exponent", "coefficient", "term", "turn"] ["poly", "n"] (defScope s_law_value) := ⟨rfl, rfl, rfl, by decide +kernel, rfl, by decide +kernel, by decide +kernel⟩
abbrev s_law_first : Stmt := top 46
theorem sc_law_first : FnScope ["machine", "word", "w", "signs", "tape", "sign"] ["machine", "word"] (defScope s_law_first) := ⟨rfl, rfl, rfl, by decide +kernel, rfl, by decide +kernel, by decide +kernel⟩
abbrev s_law_next : Stmt := top 47
theorem sc_law_next : FnScope ["machine", "standing", "kind", "signs", "rules", "room", "state", "head", "tape", "to", "sign", "move"] ["machine", "standing"] (defScope s_law_next) := ⟨rfl, rfl, rfl, by decide +kernel, rfl, by decide +kernel, by decide +kernel⟩
section
variable {P : Program} {w : World} {K : PySem.W.Frag} {mg : Str → Option Value} {base : Heap} {f c pt : Addr} {fd : FuncData} {Ta : List Addr}
theorem polyV_app (n : Nat) : ∀ (ps qs : List (Int × Int)), polyV (ps ++ qs) n = polyV ps n + polyV qs n
  | [], qs => by simp [polyV]
  | p :: ps, qs => by
    rw [List.cons_append, polyV, polyV, polyV_app n ps qs]
    omega
/-- the law's own values: exponents up to 10 -/
def RLV : DFn := fun ds q => ∃ (ps : List (Int × Int)) (n : Nat), ds = [polyD ps, .int n] ∧ ps.length ≤ 1000 ∧ (∀ p ∈ ps, 0 ≤ p.1 ∧ p.1 ≤ 10) ∧ n ≤ 100 ∧ q (.int (polyV ps n))
theorem ok_lval (F : Fun K "_law_value" "_law_value" s_law_value f fd) (T : Blt mg) : FnOk P w K mg base CX0 1 f fd ["poly", "n"] (spD' Ta RLV) := by
  refine fn_d (k := 0) kn F sc_law_value (fun ds q ⟨_, _, h, _⟩ => by rw [h]; rfl) (by decide) fun cdv A outer s H E hr => ⟨_, (dss_cons (ds_of (ps_set (i := 2) sc_law_value.nd rfl (Or.inl rfl) dx_int) (fun _ _ _ h => h))
    (dss_cons (ds_for PassesOwn.never rfl (di_seq (dx_var 0)) (pg_tup (n := 2) (by rfl) (pgs_cons (pg_name (i := 3) sc_law_value.nd rfl (Or.inl rfl)) (pgs_cons (pg_name (i := 4) sc_law_value.nd rfl (Or.inl rfl)) pgs_nil))) (gs_tup (gss_cons (gs_n 3) (gss_cons (gs_n 4) gss_nil))) (dss_cons (ds_of (ps_set (i := 5) sc_law_value.nd rfl (Or.inl rfl) (dx_var 4)) (fun _ _ _ h => h))
    (dss_cons (ds_for PassesOwn.never rfl (di_range (by rfl) T.range (dx_var 3)) (pg_name (i := 6) sc_law_value.nd rfl (Or.inl rfl)) (gs_n 6) (dss_one (ds_of (ps_set (i := 5) sc_law_value.nd rfl (Or.inl rfl) (dx_op op_mul (opS_intC _ _) (dx_var 5) (dx_var 1))) (fun _ _ _ h => h))))
    (dss_one (ds_of (ps_set (i := 2) sc_law_value.nd rfl (Or.inl rfl) (dx_op op_add (opS_int _) (dx_var 2) (dx_var 5))) (fun _ _ _ h => h))))))
    (dss_one (ds_ret (dx_var 2))))), fun ds q ⟨ps, n, h, hlen, hexp, hn, hq⟩ => ?_⟩
  subst h
  change rSeq _ _ _ [DV.d _, .d _, .no, .no, .no, .no, .no]
  refine seq_set1 (.int 0) (fun q' h => h) (by simp) ?_
  simp only [List.set_cons_succ, List.set_cons_zero]
  refine seq_for (ps.map fun p => PyData.tuple [.int p.1, .int p.2]) (fun k E => ∃ e3 e4 e5 e6 : DV, E = [.d (polyD ps), .d (.int n), .d (.int (polyV (ps.take k) n)), e3, e4, e5, e6]) (fun q' h => ⟨_, rfl, _, .inr rfl, h⟩) ⟨_, _, _, _, rfl⟩ ?_ ?_
  · rintro k d E' hd ⟨e3, e4, e5, e6, rfl⟩
    rw [List.getElem?_map] at hd
    obtain ⟨p, hp, rfl⟩ : ∃ p, ps[k]? = some p ∧ d = .tuple [.int p.1, .int p.2] := by
      cases e : ps[k]? with
      | none => rw [e] at hd; cases hd
      | some p => rw [e] at hd; exact ⟨p, rfl, (Option.some.inj hd).symm⟩
    have pm := List.mem_of_getElem? hp
    have x1 := hexp p pm
    obtain ⟨e, he⟩ : ∃ e : Nat, p.1 = (e : Int) := ⟨p.1.toNat, by omega⟩
    refine ⟨_, rfl, rfl, _, _, rfl, by simp, _, _, rfl, by simp, rfl, ?_⟩
    simp only [List.set_cons_succ, List.set_cons_zero]
    refine seq_set1 (.int p.2) (fun q' h => ⟨_, rfl, h⟩) (by simp) ?_
    simp only [List.set_cons_succ, List.set_cons_zero]
    refine seq_for (intsD 0 e) (fun j E => ∃ e6 : DV, E = [.d (polyD ps), .d (.int n), .d (.int (polyV (ps.take k) n)), .d (.int p.1), .d (.int p.2), .d (.int (p.2 * (n : Int) ^ j)), e6]) (fun q' h => ?_) ⟨e6, by simp⟩ ?_ ?_
    · rw [he]
      exact ⟨_, rfl, (e : Int), rfl, by omega, by omega, by simpa using h⟩
    · rintro j d E' hd ⟨e6, rfl⟩
      have hm : CMul (p.2 * (n : Int) ^ j) (n : Int) := .inr ⟨by omega, by omega⟩
      simp [hm]
      rw [Int.pow_succ, Int.mul_assoc]
    · rintro E' ⟨e6, rfl⟩
      rw [ints_len]
      have e7 : polyV (ps.take (k + 1)) n = polyV (ps.take k) n + p.2 * (n : Int) ^ e := by
        rw [List.take_succ, hp, polyV_app]
        simp [polyV, he]
      simp [e7]
  · rintro E' ⟨e3, e4, e5, e6, rfl⟩
    rw [List.length_map, List.take_length]
    exact ⟨_, rfl, hq⟩
theorem ok_lfirst (F : Fun K "_law_first" "_law_first" s_law_first f fd) (T : Blt mg) (C1 : CallD P w K mg base "_law_value" 1 ["poly", "n"] (spD' Ta RLV)) : FnOk P w K mg base CX0 2 f fd ["machine", "word"] (spD' Ta RFirst) := by
  obtain ⟨_, _, G_law_value, b_law_value, k_law_value, m_law_value⟩ := C1.ex
  refine fn_d (k := 1) kn F sc_law_first (fun ds q ⟨_, _, _, _, _, _, h, _⟩ => by rw [h]; rfl) (by decide) fun cdv A outer s H E hr => ⟨_, (dss_cons (ds_asg (ps_asg (dx_tup (da_cons (dx_call G_law_value (hr.mono (by omega)) rfl m_law_value k_law_value b_law_value (da_cons (dx_ix ix_A opS_ix (dx_var 0) dx_int (fun _ _ => rfl)) (da_cons (dx_callB call_len callS_len (by rfl) T.len PySem.boot_len (da_cons (dx_var 1) da_nil)) da_nil))) (da_cons (dx_ix ix_A opS_ix (dx_var 0) dx_int (fun _ _ => rfl)) da_nil))) (pg_tup (n := 2) (by rfl) (pgs_cons (pg_name (i := 2) sc_law_first.nd rfl (Or.inl rfl)) (pgs_cons (pg_name (i := 3) sc_law_first.nd rfl (Or.inr rfl)) pgs_nil)))) (gs_tup (gss_cons (gs_n 2) (gss_cons (gs_n 3) gss_nil))))
    (dss_cons (ds_of (ps_set (i := 4) sc_law_first.nd rfl (Or.inl rfl) (dx_op op_cat opS_catL (dx_lc (own := [("sign", 5)]) rfl sc_law_first.nd (di_str (dx_sl (dx_var 1) do_n (do_s (dx_var 2)))) (blkOk_by (N := ["machine", "word", "w", "signs", "tape", "sign"]) (sc := defScope s_law_first) (by decide +kernel)) (fun _ _ _ _ _ => (pg_name (i := 5) sc_law_first.nd rfl (by first | exact Or.inl rfl | exact Or.inr rfl))) (gs_n 5) (by decide) (fun _ _ _ _ _ => dts_nil) (fun _ _ _ _ _ => (dx_if (dt_cmp op_in_sign opS_in (dx_var 5) (dx_var 3) (by rfl)) (dx_var 5) (dx_ix ix_A opS_ix (dx_var 3) dx_int (fun _ _ => rfl))))) (dx_op op_rep opS_repL (dx_lst (da_cons (dx_ix ix_A opS_ix (dx_var 3) dx_int (fun _ _ => rfl)) da_nil)) (dx_op op_sub (opS_int _) (dx_var 2) (dx_callB call_len callS_len (by rfl) T.len PySem.boot_len (da_cons (dx_var 1) da_nil)))))) (fun _ _ _ h => h))
    (dss_one (ds_ret (dx_tup (da_cons dx_int (da_cons dx_int (da_cons (dx_ms PySem.F.slot_str_join PySem.F.type_str_join mt_join ms_join dx_str (da_cons (dx_var 4) da_nil)) da_nil)))))))), fun ds q ⟨S, R, ps, d, z, n, h, ok, hz, hl, hv, n1, n2, hq⟩ => ?_⟩
  subst h
  have hS' : S.length ≤ sizeLine := Nat.le_trans ok.s26 (by decide)
  have hz' : z.length ≤ sizeLine := Nat.le_trans hl (by decide)
  obtain ⟨rfl, h1, h2, h3, h4, h5, h6, h7, h8, h9⟩ := ok
  change rSeq _ _ _ [DV.d _, .d _, .no, .no, .no, .no]
  have hS0 : 0 < S.length := by omega
  have h0 : 0 < S.cps.toList.length := by rw [← str_len]; exact hS0
  have es : signsD (cutS z none (some (n : Int))) = (z.cps.toList.take n).map fun c => PyData.str ⟨#[c]⟩ := by
    unfold signsD
    rw [cutTo]
  have hlen : (z.cps.toList.take n).length ≤ 100 := by
    rw [List.length_take, ← str_len]
    omega
  refine seq_asgP (fun d => d = .tuple [.int n, .str S]) (fun q' h => ?_) ?_
  · simp [hz', and_assoc]
    exact ⟨_, rfl, ps, z.length, rfl, Nat.le_trans h8.len (by omega), fun p hp => by have := h8.exp p hp; omega, hl, by rw [hv]; exact ⟨by decide, h _ rfl⟩⟩
  rintro _ rfl
  refine ⟨_, rfl, rfl, _, _, rfl, by simp, _, _, rfl, by simp, rfl, ?_⟩
  simp only [List.set_cons_succ, List.set_cons_zero]
  refine seq_set1 (.list ((((z.cps.toList.take n).map (fl S) ++ List.replicate (n - z.length) (S.cps.toList.getD 0 0)).map one).map PyData.str)) (fun q' h => ?_) (by simp) ?_
  · simp only [rOp]
    refine rLc_map (g := flD S) (signsD (cutS z none (some (n : Int)))) (noOwn_of (by simp)) (by simp) ?_ (fun q'' h'' => ?_) (fun d hd q'' h'' => ?_) ?_
    · rw [es, List.length_map]
      exact Nat.le_trans hlen (by decide)
    · simp
      exact ⟨hz', h''⟩
    · obtain ⟨x, hx, rfl⟩ := List.mem_map.mp hd
      simp [wipeE, hS']
      exact fl_at hS0 h''
    · rw [es, fl_map]
      simp [hS', hz', -List.map_take, -List.map_map]
      refine ⟨_, atI_nat (j := 0) (List.getElem?_eq_getElem h0), by decide, by omega, by omega, Nat.le_trans (show _ ≤ 10000 by omega) (by decide), ?_⟩
      have e : S.cps.toList[0] = S.cps.toList.getD 0 0 := by rw [List.getD_eq_getElem?_getD, List.getElem?_eq_getElem h0]; rfl
      rw [List.map_append, List.map_append, List.map_replicate, List.map_replicate] at h
      rw [e]
      exact h
  simp only [List.set_cons_succ, List.set_cons_zero]
  simp only [rRet, rTup, raCons, raNil, rC, rMs]
  refine ⟨_, rfl, _, rfl, _, _, .inl rfl, rfl, ?_, (show 3 ≤ sizeLine by decide), ?_⟩
  · rw [onesSum, show ("" : Str).length = 0 from rfl, List.length_append, List.length_map, List.length_replicate]
    omega
  · rw [join_ones]
    exact hq
theorem ok_lnext (F : Fun K "_law_next" "_law_next" s_law_next f fd) (T : Blt mg) : FnOk P w K mg base CX0 1 f fd ["machine", "standing"] (spD' Ta RNext) := by
  refine fn_d (k := 0) kn F sc_law_next (fun ds q ⟨_, _, _, _, _, _, _, h, _⟩ => by rw [h]; rfl) (by decide) fun cdv A outer s H E hr => ⟨_, (dss_cons (ds_asg (ps_asg (dx_var 0) (pg_tup (n := 4) (by rfl) (pgs_cons (pg_name (i := 2) sc_law_next.nd rfl (Or.inl rfl)) (pgs_cons (pg_name (i := 3) sc_law_next.nd rfl (Or.inl rfl)) (pgs_cons (pg_name (i := 4) sc_law_next.nd rfl (Or.inl rfl)) (pgs_cons (pg_name (i := 5) sc_law_next.nd rfl (Or.inl rfl)) pgs_nil)))))) (gs_tup (gss_cons (gs_n 2) (gss_cons (gs_n 3) (gss_cons (gs_n 4) (gss_cons (gs_n 5) gss_nil))))))
    (dss_cons (ds_asg (ps_asg (dx_var 1) (pg_tup (n := 3) (by rfl) (pgs_cons (pg_name (i := 6) sc_law_next.nd rfl (Or.inl rfl)) (pgs_cons (pg_name (i := 7) sc_law_next.nd rfl (Or.inl rfl)) (pgs_cons (pg_name (i := 8) sc_law_next.nd rfl (Or.inl rfl)) pgs_nil))))) (gs_tup (gss_cons (gs_n 6) (gss_cons (gs_n 7) (gss_cons (gs_n 8) gss_nil)))))
    (dss_cons (ds_if (dt_cmp op_ge (opS_bool _) (dx_var 6) (dx_callB call_len callS_len (by rfl) T.len PySem.boot_len (da_cons (dx_var 4) da_nil)) (nomark _)) (dss_one (ds_ret (dx_var 1))) dss_nil)
    (dss_cons (ds_asg (ps_asg (dx_ix ix_A opS_ix (dx_ix ix_A opS_ix (dx_var 4) (dx_var 6) (fun _ _ => rfl)) (dx_ms PySem.F.slot_str_index PySem.F.type_str_index mt_sindex ms_index (dx_var 3) (da_cons (dx_ix ix_A opS_ix (dx_var 8) (dx_var 7) (fun _ _ => rfl)) da_nil)) (fun _ _ => rfl)) (pg_tup (n := 3) (by rfl) (pgs_cons (pg_name (i := 9) sc_law_next.nd rfl (Or.inl rfl)) (pgs_cons (pg_name (i := 10) sc_law_next.nd rfl (Or.inl rfl)) (pgs_cons (pg_name (i := 11) sc_law_next.nd rfl (Or.inl rfl)) pgs_nil))))) (gs_tup (gss_cons (gs_n 9) (gss_cons (gs_n 10) (gss_cons (gs_n 11) gss_nil)))))
    (dss_one (ds_ret (dx_tup (da_cons (dx_var 9) (da_cons (dx_callB (call_max2 rfl) (callS_int2 _) (by rfl) T.max (by decide +kernel) (da_cons dx_int (da_cons (dx_callB (call_min2 rfl) (callS_int2 _) (by rfl) T.min (by decide +kernel) (da_cons (dx_op op_sub (opS_int _) (dx_callB call_len callS_len (by rfl) T.len PySem.boot_len (da_cons (dx_var 8) da_nil)) dx_int) (da_cons (dx_op op_add (opS_int _) (dx_var 7) (dx_var 11)) da_nil))) da_nil))) (da_cons (dx_op op_add_str opS_cat (dx_op op_add_str opS_cat (dx_sl (dx_var 8) do_n (do_s (dx_var 7))) (dx_var 10)) (dx_sl (dx_var 8) (do_s (dx_op op_add (opS_int _) (dx_var 7) dx_int)) do_n)) da_nil)))))))))), fun ds q ⟨S, R, ps, d, s', h', z, h, ok, hs, hz, hq⟩ => ?_⟩
  subst h
  have hS' : S.length ≤ sizeLine := Nat.le_trans ok.s26 (by decide)
  have hR' : R.length ≤ sizeLine := Nat.le_trans ok.r24 (by decide)
  have hz' : z.length ≤ sizeLine := Nat.le_trans hz (by decide)
  have ok' := ok
  obtain ⟨rfl, h1, h2, h3, h4, h5, h6, h7, h8, h9⟩ := ok
  change rSeq _ _ _ [DV.d _, .d (.tuple [.int s', .int h', .str z]), .no, .no, .no, .no, .no, .no, .no, .no, .no, .no]
  refine ⟨_, rfl, _, rfl, rfl, _, _, rfl, by simp, _, _, rfl, by simp, _, _, rfl, by simp, _, _, rfl, by simp, rfl, ?_⟩
  refine ⟨_, rfl, _, rfl, rfl, _, _, rfl, by simp, _, _, rfl, by simp, _, _, rfl, by simp, rfl, ?_⟩
  simp only [List.set_cons_succ, List.set_cons_zero]
  by_cases hh : R.length ≤ s'
  · refine seq_take (fun k hk => ?_) ?_
    · simp [hR']
      rw [decide_eq_true (by omega)]
      exact hk
    have e : nextD S R s' h' z = standD s' h' z := if_pos hh
    rw [e] at hq
    exact ⟨_, rfl, hq⟩
  refine seq_skip (fun k hk => ?_) ?_
  · simp [hR']
    rw [decide_eq_false (by omega)]
    exact hk
  obtain ⟨rs, i, a, x, v, y, e1, e2, e3, e4, e5, r1, r2, r3, r4, e6⟩ := next_of ok' hs (by omega)
  rw [e6] at hq
  refine seq_asgP (fun d => d = .tuple [.int a, .str ⟨#[x]⟩, .int v]) (fun q' h => ?_) ?_
  · simp [hS', hz', and_assoc]
    refine ⟨_, atI_nat e1, y, atI_nat e2, by simpa using e3, ?_⟩
    rw [e4]
    exact ⟨(i : Int), rfl, .inl ⟨rs, _, .inr rfl, atI_nat e5, h _ rfl⟩⟩
  rintro _ rfl
  refine ⟨_, rfl, rfl, _, _, rfl, by simp, _, _, rfl, by simp, _, _, rfl, by simp, rfl, ?_⟩
  simp only [List.set_cons_succ, List.set_cons_zero]
  have em : ∀ X Y : Int, (if (if Y < X then Y else X) > 0 then (if Y < X then Y else X) else 0) = max 0 (min Y X) := fun X Y => by
    split <;> split <;> omega
  have n1 : (cutS z none (some (h' : Int))).length ≤ 1000 := by rw [str_len, cutTo, List.length_take, ← str_len]; omega
  have n2 : (cutS z (some ((h' : Int) + 1)) none).length ≤ 1000 := by
    rw [show (h' : Int) + 1 = ((h' + 1 : Nat) : Int) by omega, str_len, cutFrom, List.length_drop, ← str_len]
    omega
  have n3 : (⟨#[x]⟩ : Str).length = 1 := rfl
  have line : ∀ n : Nat, n ≤ 10000 → n ≤ sizeLine := fun n h => Nat.le_trans h (by decide)
  rw [← em] at hq
  simp [hz', and_assoc]
  exact ⟨line _ (by omega), line _ (by rw [len_cat]; omega), by decide, by simpa using hq⟩
theorem next_stand {S : Str} {R : List PyData} {ps : List (Int × Int)} {m : PyData} {w s h : Nat} {z : Str} (M : Mach S R ps m) (H : Stand S R.length w s h z) : ∃ s' h' z', nextD S R s h z = standD s' h' z' ∧ Stand S R.length w s' h' z' := by
  by_cases hs : R.length ≤ s
  · exact ⟨s, h, z, if_pos hs, H⟩
  obtain ⟨rs, i, a, x, v, y, e1, e2, e3, e4, e5, r1, r2, r3, r4, e6⟩ := next_of M H (by omega)
  have h0 := H.h0
  have hl := H.l
  obtain ⟨k, hk⟩ : ∃ k : Nat, max 0 (min ((h : Int) + v) ((z.length : Int) - 1)) = (k : Int) := ⟨(max 0 (min ((h : Int) + v) ((z.length : Int) - 1))).toNat, by omega⟩
  refine ⟨a, k, _, by rw [e6, hk]; rfl, r1, by omega, ?_, fun d hd => ?_⟩
  · rw [len_cat, len_cat, show (h : Int) + 1 = ((h + 1 : Nat) : Int) by omega, str_len, cutTo, str_len (cutS z (some _) none), cutFrom, List.length_take, List.length_drop, ← str_len, show (⟨#[x]⟩ : Str).length = 1 from rfl]
    omega
  · rw [cat_cps, cat_cps, show (h : Int) + 1 = ((h + 1 : Nat) : Int) by omega, cutTo, cutFrom] at hd
    rcases List.mem_append.mp hd with hd | hd
    · rcases List.mem_append.mp hd with hd | hd
      · exact H.sg d (List.mem_of_mem_take hd)
      · have : d = x := by simpa using hd
        rw [this]
        exact r2
    · exact H.sg d (List.mem_of_mem_drop hd)
theorem fl_in {S : Str} (h : 0 < S.length) (c : Nat) : fl S c ∈ S.cps.toList := by
  unfold fl
  split
  · next hc => exact hc
  · have h0 : 0 < S.cps.toList.length := by rw [← str_len]; exact h
    rw [List.getD_eq_getElem?_getD, List.getElem?_eq_getElem h0]
    exact List.getElem_mem h0
theorem first_stand {S z : Str} {m n : Nat} (h : 0 < S.length) (hn : 1 ≤ n) : Stand S m n 0 0 (firstT S n z) := by
  have e := str_len z
  refine ⟨by omega, by omega, ?_, fun c hc => ?_⟩
  · rw [str_len]
    unfold firstT
    simp
    have := e.symm
    simp at this
    omega
  · unfold firstT at hc
    rw [List.toList_toArray] at hc
    have h0 := fl_in h
    rcases List.mem_append.mp hc with hc | hc
    · obtain ⟨x, _, rfl⟩ := List.mem_map.mp hc
      exact h0 x
    · have h1 : 0 < S.cps.toList.length := by rw [← str_len]; exact h
      rw [(List.mem_replicate.mp hc).2, List.getD_eq_getElem?_getD, List.getElem?_eq_getElem h1]
      exact List.getElem_mem h1
end
end Zk

set_option maxHeartbeats 1000000
/-! C5: drawn machines. -/
namespace Zk
open PySem PySem.Spec PyProof.Rows L2 GxR TL SX
abbrev s_law_signs : Stmt := top 49
theorem sc_law_signs : FnScope ["deck", "many", "left", "found", "turn"] ["deck", "many"] (defScope s_law_signs) := ⟨rfl, rfl, rfl, by decide +kernel, rfl, by decide +kernel, by decide +kernel⟩
abbrev s_law_rules : Stmt := top 50
theorem sc_law_rules : FnScope ["deck", "signs", "many", "found", "state", "sign"] ["deck", "signs", "many"] (defScope s_law_rules) := ⟨rfl, rfl, rfl, by decide +kernel, rfl, by decide +kernel, by decide +kernel⟩
abbrev s_law_drawn : Stmt := top 51
theorem sc_law_drawn : FnScope ["deck", "room", "most", "signs"] ["deck", "room", "most"] (defScope s_law_drawn) := ⟨rfl, rfl, rfl, by decide +kernel, rfl, by decide +kernel, by decide +kernel⟩
abbrev s_law_word : Stmt := top 52
theorem sc_law_word : FnScope ["deck", "machine", "n", "at"] ["deck", "machine", "n"] (defScope s_law_word) := ⟨rfl, rfl, rfl, by decide +kernel, rfl, by decide +kernel, by decide +kernel⟩
section
variable {P : Program} {w : World} {K : PySem.W.Frag} {mg : Str → Option Value} {base : Heap} {f c pt : Addr} {fd : FuncData} {Ta : List Addr}
theorem paired_signs {α : Type} {Pc : Nat → Prop} : ∀ {xs : List α} {ys : List PyData}, Paired (fun _ y => ∃ c, y = .str ⟨#[c]⟩ ∧ Pc c) xs ys → ∃ cs : List Nat, ys = (cs.map one).map PyData.str ∧ (∀ c ∈ cs, Pc c) ∧ cs.length = xs.length
  | _, _, .nil => ⟨[], rfl, fun c h => (by cases h), rfl⟩
  | _, _, .cons ⟨c, e, hc⟩ t => by
    obtain ⟨cs, e2, h, hl⟩ := paired_signs t
    subst e e2
    refine ⟨c :: cs, rfl, fun d hd => ?_, by rw [List.length_cons, List.length_cons, hl]⟩
    rcases List.mem_cons.mp hd with rfl | hd
    · exact hc
    · exact h d hd
theorem paired_all {α : Type} {Pd : PyData → Prop} : ∀ {xs : List α} {ys : List PyData}, Paired (fun _ y => Pd y) xs ys → ys.length = xs.length ∧ ∀ d ∈ ys, Pd d
  | _, _, .nil => ⟨rfl, fun d h => (by cases h)⟩
  | _, _, .cons h t => by
    obtain ⟨hl, ha⟩ := paired_all t
    refine ⟨by rw [List.length_cons, List.length_cons, hl], fun d hd => ?_⟩
    rcases List.mem_cons.mp hd with rfl | hd
    · exact h
    · exact ha d hd
theorem rising_pw : ∀ (cs : List Nat) (p : Nat), risingS (one p) (cs.map one) = true → (p :: cs).Pairwise (· ≤ ·)
  | [], p, _ => by simp
  | x :: r, p, h => by
    rw [List.map_cons] at h
    simp only [risingS, Bool.and_eq_true] at h
    have h2 := rising_pw r x h.2
    have h1 : p ≤ x := by
      have := h.1
      rw [ltCps_eq] at this
      simp [one, List.cons_lt_cons_iff] at this
      omega
    refine List.Pairwise.cons (fun y hy => ?_) h2
    rcases List.mem_cons.mp hy with rfl | hy
    · exact h1
    · exact Nat.le_trans h1 ((List.pairwise_cons.mp h2).1 y hy)
theorem sorted_pw : ∀ (cs : List Nat), sortedS (cs.map one) = true → cs.Pairwise (· ≤ ·)
  | [], _ => .nil
  | x :: r, h => rising_pw r x h
theorem pw_lt {cs : List Nat} (h : cs.Pairwise (· ≤ ·)) (n : cs.Nodup) : cs.Pairwise (· < ·) := by
  refine (h.and n).imp fun {a b} ⟨h1, h2⟩ => ?_
  omega
theorem onesOf {ys : List Str} {f : List Nat} (h : ys.Perm (f.map one)) : ∃ cs : List Nat, ys = cs.map one ∧ cs.Perm f := by
  refine ⟨ys.map fun z => z.cps.toList.headD 0, ?_, ?_⟩
  · rw [List.map_map]
    refine (List.map_id ys).symm.trans (List.map_congr_left fun y hy => ?_)
    obtain ⟨c, _, rfl⟩ := List.mem_map.mp (h.mem_iff.mp hy)
    rfl
  · have := h.map fun z => z.cps.toList.headD 0
    rw [List.map_map] at this
    exact this.trans (by rw [show ((fun z : Str => z.cps.toList.headD 0) ∘ one) = id from rfl, List.map_id])
theorem eraseMap {α β : Type} (g : α → β) : ∀ (l : List α) (k : Nat), (l.map g).eraseIdx k = (l.eraseIdx k).map g
  | [], _ => rfl
  | _ :: _, 0 => rfl
  | x :: l, k + 1 => by
    rw [List.map_cons, List.eraseIdx_cons_succ, List.eraseIdx_cons_succ, List.map_cons, eraseMap g l k]
theorem erasePerm {α : Type} : ∀ (l : List α) (k : Nat) (h : k < l.length), (l[k] :: l.eraseIdx k).Perm l
  | x :: l, 0, _ => .refl _
  | x :: l, k + 1, h => by
    rw [List.eraseIdx_cons_succ, List.getElem_cons_succ]
    exact (List.Perm.swap _ _ _).trans ((erasePerm l k (by simpa using h)).cons x)
abbrev baseL : List Nat := [97, 98, 110, 121, 108, 114, 99, 100, 120, 122]
theorem base_eq : ("abnylrcdxz" : Str).cps.toList = baseL := by decide
theorem rngV' (n : Nat) {i : Nat} {E : DEnv} (h : n < 2 ^ 62) {q' : List PyData → Prop} (hq : q' (intsD 0 n)) (he : E[i]? = some (.d (.int (n : Int))) := by rfl) : riRange (rV i) E q' := ⟨_, he, (n : Int), rfl, by omega, by omega, by simpa using hq⟩
theorem rngV (n : Nat) {i : Nat} {E : DEnv} (h : n < 2 ^ 62) (he : E[i]? = some (.d (.int (n : Int))) := by rfl) : ∀ q' : List PyData → Prop, q' (intsD 0 n) → riRange (rV i) E q' := fun q' hq => rngV' n h hq he
def sD (c : Nat) : PyData := .str ⟨#[c]⟩
def RSigns : DFn := fun ds q => ∃ m : Nat, ds = [.int m] ∧ m ≤ 10 ∧ ∀ S : Str, Low S → Asc S → S.length = m → q (.str S)
theorem ok_signs (F : Fun K "_law_signs" "_law_signs" s_law_signs f fd) (T : Blt mg) (C1 : CallD P w K mg base "_law_draw" 1 ["deck", "many"] (spDk Ta kn RDraw)) : FnOk P w K mg base CX0 2 f fd ["deck", "many"] (spDk Ta kn RSigns) := by
  obtain ⟨_, _, G_law_draw, b_law_draw, k_law_draw, m_law_draw⟩ := C1.ex
  refine fn_k (N := ["many", "left", "found", "turn"]) (ps := ["many"]) (n0 := "deck") (k := 1) F sc_law_signs (fun ds q ⟨_, h, _⟩ => by rw [h]; rfl) (by decide) fun cdv A outer s H E hr => ⟨_, (dss_cons (ds_par (ps_par (i := 2) (j := 3) rfl sc_law_signs.nd rfl rfl (by decide) rfl rfl (dp_ls rfl (by rfl) T.list dx_str (dp_n da_nil dp_nil)) (by rfl)))
    (dss_cons (ds_for PassesOwn.never rfl (di_range (by rfl) T.range (dx_var 1)) (pg_name (i := 4) sc_law_signs.nd rfl (Or.inl rfl)) (gs_n 4) (dss_one (ds_appPop (ps_expr (pe_bm PySem.F.plainAttrs_list PySem.F.slot_list_append PySem.F.type_list_append mt_append (pv 3) (pa_cons (pe_bm PySem.F.plainAttrs_list PySem.F.slot_list_pop PySem.F.type_list_pop mt_popAt (pv 2) (pa_cons (dx_callK (i := 0) G_law_draw (hr.mono (by omega)) rfl m_law_draw k_law_draw b_law_draw (pv 0) (da_cons (dx_lenQ (dq_own 2 (pv 2)) (by rfl) T.len) da_nil)) pa_nil)) pa_nil))))))
    (dss_frz (i := 3) (dss_one (ds_ret (dx_ms PySem.F.slot_str_join PySem.F.type_str_join mt_join ms_join dx_str (da_cons (dx_callB cr_sortedSn callS_sortSn (by rfl) T.sorted (by decide +kernel) (da_cons (dx_var 3) da_nil)) da_nil))))))), fun ds q ⟨m, h, hm, hq⟩ => ?_⟩
  subst h
  change rSeq _ _ _ [DV.deck, .d _, .no, .no, .no]
  refine seq_par (.lst (baseL.map sD)) (.lst []) (fun q' h => ?_) (by simp) (by simp) ?_
  · refine ⟨_, rfl, by decide, by decide, ?_⟩
    unfold signsD
    rw [base_eq]
    exact h
  simp only [List.set_cons_succ, List.set_cons_zero]
  refine seq_for (intsD 0 m) (fun k E => ∃ (l f : List Nat) (e : DV), E = [.deck, .d (.int m), .lst (l.map sD), .lst (f.map sD), e] ∧ (f ++ l).Perm baseL ∧ f.length = k) (rngV m (by omega)) ⟨baseL, [], _, rfl, .refl _, rfl⟩ ?_ ?_
  · rintro k d E' hd ⟨l, f, e, rfl, hp, hf⟩
    have hk := (ints_get.mp hd).1
    have hlen : f.length + l.length = 10 := by rw [← List.length_append, hp.length_eq]; rfl
    have hl0 : 0 < l.length := by omega
    refine ⟨by simp, _, _, by decide, rfl, rfl, rfl, _, rfl, _, rfl, by rw [List.length_map]; omega, by rw [List.length_map]; omega, fun r r0 r1 => ?_⟩
    rw [List.length_map] at r1
    obtain ⟨j, rfl⟩ : ∃ j : Nat, r = j := ⟨r.toNat, by omega⟩
    have hj : j < l.length := by omega
    refine ⟨j, sD l[j], rfl, by omega, by rw [List.getElem?_map, List.getElem?_eq_getElem hj]; rfl, by rw [List.length_map, hf]; exact Nat.lt_of_lt_of_le (show k < 10 by omega) (by decide), ?_⟩
    refine ⟨l.eraseIdx j, f ++ [l[j]], .d d, ?_, ?_, by rw [List.length_append, hf]; rfl⟩
    · simp only [List.set_cons_succ, List.set_cons_zero]
      rw [List.map_append, eraseMap]
      rfl
    · rw [List.append_assoc]
      exact (List.Perm.append_left f (erasePerm l j hj)).trans hp
  · rintro E' ⟨l, f, e, rfl, hp, hf⟩
    rw [ints_len] at hf
    refine ⟨_, rfl, ?_⟩
    simp only [List.set_cons_succ, List.set_cons_zero]
    refine ⟨_, rfl, _, rfl, f.map one, by rw [List.map_map]; rfl, fun ys hy hs => ?_⟩
    obtain ⟨cs, rfl, hc⟩ := onesOf hy
    have nd : cs.Nodup := by
      have h1 : (f ++ l).Nodup := hp.symm.nodup (by decide)
      exact hc.symm.nodup (List.nodup_append.mp h1).1
    have low : ∀ c ∈ cs, 97 ≤ c ∧ c ≤ 122 := fun c h => by
      have h1 : c ∈ baseL := hp.mem_iff.mp (List.mem_append_left _ (hc.mem_iff.mp h))
      simp at h1
      omega
    refine ⟨_, cs.map one, .inl rfl, rfl, ?_, ?_⟩
    · rw [onesSum, show ("" : Str).length = 0 from rfl, hc.length_eq]
      omega
    · rw [join_ones]
      exact hq _ low (pw_lt (sorted_pw cs hs) nd) (by rw [str_len]; exact hc.length_eq.trans hf)
def RRules : DFn := fun ds q => ∃ (S : Str) (m : Nat), ds = [.str S, .int m] ∧ 1 ≤ S.length ∧ S.length ≤ 26 ∧ 1 ≤ m ∧ m ≤ 24 ∧ ∀ R : List PyData, R.length = m → (∀ x ∈ R, StateOk S m x) → q (.tuple R)
theorem ok_rules (F : Fun K "_law_rules" "_law_rules" s_law_rules f fd) (T : Blt mg) (C1 : CallD P w K mg base "_law_draw" 1 ["deck", "many"] (spDk Ta kn RDraw)) (C2 : CallD P w K mg base "_law_pick" 2 ["deck", "some"] (spDk Ta kn RPick)) : FnOk P w K mg base CX0 3 f fd ["deck", "signs", "many"] (spDk Ta kn RRules) := by
  obtain ⟨_, _, G_law_draw, b_law_draw, k_law_draw, m_law_draw⟩ := C1.ex
  obtain ⟨_, _, G_law_pick, b_law_pick, k_law_pick, m_law_pick⟩ := C2.ex
  refine fn_k (N := ["signs", "many", "found", "state", "sign"]) (ps := ["signs", "many"]) (n0 := "deck") (k := 2) F sc_law_rules (fun ds q ⟨_, _, h, _⟩ => by rw [h]; rfl) (by decide) fun cdv A outer s H E hr => ⟨_, (dss_cons (ds_new (ps_set (i := 3) sc_law_rules.nd rfl (Or.inl rfl) (pe_lst da_nil)))
    (dss_cons (ds_for PassesOwn.never rfl (di_range (by rfl) T.range (dx_var 2)) (pg_name (i := 4) sc_law_rules.nd rfl (Or.inl rfl)) (gs_n 4) (dss_one (ds_app (ps_expr (pe_bm PySem.F.plainAttrs_list PySem.F.slot_list_append PySem.F.type_list_append mt_append (pv 3) (pa_cons (dx_tupleQ (dq_data (dx_lc (own := [("sign", 5)]) rfl sc_law_rules.nd (di_str (dx_var 1)) (blkOk_by (N := ["deck", "signs", "many", "found", "state", "sign"]) (sc := defScope s_law_rules) (by decide +kernel)) (fun _ _ _ _ _ => (pg_name (i := 5) sc_law_rules.nd rfl (by first | exact Or.inl rfl | exact Or.inr rfl))) (gs_n 5) (by decide) (fun _ _ _ _ _ => dts_nil) (fun _ _ _ _ _ => (dx_tup (da_cons (dx_callK (i := 0) G_law_draw (hr.mono (by omega)) rfl m_law_draw k_law_draw b_law_draw (pv 0) (da_cons (dx_op op_add (opS_int _) (dx_var 2) dx_int) da_nil)) (da_cons (dx_callK (i := 0) G_law_pick (hr.mono (by omega)) rfl m_law_pick k_law_pick b_law_pick (pv 0) (da_cons (dx_callT (call_listS rfl) callS_listS (by rfl) T.list (by decide +kernel) (da_cons (dx_var 1) da_nil)) da_nil)) (da_cons (dx_callK (i := 0) G_law_pick (hr.mono (by omega)) rfl m_law_pick k_law_pick b_law_pick (pv 0) (da_cons (dx_lst (da_cons dx_int (da_cons dx_int (da_cons (dx_neg dx_int) (da_cons dx_int da_nil))))) da_nil)) da_nil))))))) (by rfl) T.tuple) pa_nil))))))
    (dss_one (ds_ret (dx_tupleQ (dq_own 3 (pv 3)) (by rfl) T.tuple))))), fun ds q ⟨S, m, h, s1, s26, m1, m24, hq⟩ => ?_⟩
  subst h
  have hS' : S.length ≤ sizeLine := Nat.le_trans s26 (by decide)
  change rSeq _ _ _ [DV.deck, .d _, .d _, .no, .no, .no]
  refine ⟨by simp, by decide, ?_⟩
  simp only [List.set_cons_succ, List.set_cons_zero]
  refine seq_for (intsD 0 m) (fun k E => ∃ (R : List PyData) (e : DV), E = [.deck, .d (.str S), .d (.int m), .lst R, e, .no] ∧ R.length = k ∧ ∀ x ∈ R, StateOk S m x) (rngV m (by omega)) ⟨[], _, rfl, rfl, fun x h => by cases h⟩ ?_ ?_
  · rintro k d E' hd ⟨R, e, rfl, hR, hx⟩
    have hk := (ints_get.mp hd).1
    refine ⟨by simp, _, rfl, ?_⟩
    simp only [List.set_cons_succ, List.set_cons_zero]
    refine rLc_of (noOwn_of (by simp)) ⟨_, rfl, S, rfl, ?_⟩
    refine lcB_rel (G := fun _ y => RuleOk S m y) (signsD S) (by simp) (by rw [signs_len]; exact hS') (fun d hd q'' h'' => ?_) fun ys hys => .inl ⟨ys, rfl, ?_⟩
    · simp [wipeE, hS', and_assoc]
      refine ⟨by omega, by omega, fun r r0 r1 => ?_⟩
      refine pick_lst (by rw [signs_len]; exact s1) (by rw [signs_len]; omega) fun x hx' => ?_
      obtain ⟨y, hy, rfl⟩ := List.mem_map.mp hx'
      refine ⟨by decide, pick_lst (by simp) (by simp) fun v hv => ?_⟩
      refine ⟨by decide, ?_⟩
      obtain ⟨r', rfl⟩ : ∃ r' : Nat, r = r' := ⟨r.toNat, by omega⟩
      simp at hv
      rcases hv with rfl | rfl | rfl
      · exact h'' _ ⟨r', y, 1, rfl, by omega, hy, by omega, by omega⟩
      · exact h'' _ ⟨r', y, -1, rfl, by omega, hy, by omega, by omega⟩
      · exact h'' _ ⟨r', y, 0, rfl, by omega, hy, by omega, by omega⟩
    · obtain ⟨e1, e2⟩ := paired_all hys
      refine ⟨Nat.lt_of_lt_of_le (show R.length < 24 by omega) (by decide), R ++ [.tuple ys], _, rfl, by rw [List.length_append, hR]; rfl, fun x hx' => ?_⟩
      rcases List.mem_append.mp hx' with h | h
      · exact hx x h
      · rw [List.mem_singleton.mp h]
        exact ⟨ys, rfl, by rw [e1, signs_len], e2⟩
  · rintro E' ⟨R, e, rfl, hR, hx⟩
    rw [ints_len] at hR
    exact ⟨_, rfl, hq R hR hx⟩
/-- the machines that are drawn -/
def RDrawn : DFn := fun ds q => ∃ (ps : List (Int × Int)), ds = [polyD ps, .int 4] ∧ PolyOk ps ∧ (∃ c tl, ps = (0, c) :: tl) ∧ ∀ S R d, Mach S R ps d → S.length ≤ 4 → R.length ≤ 4 → q d
theorem ok_drawn (F : Fun K "_law_drawn" "_law_drawn" s_law_drawn f fd) (T : Blt mg) (C1 : CallD P w K mg base "_law_draw" 1 ["deck", "many"] (spDk Ta kn RDraw)) (C2 : CallD P w K mg base "_law_signs" 2 ["deck", "many"] (spDk Ta kn RSigns)) (C3 : CallD P w K mg base "_law_rules" 3 ["deck", "signs", "many"] (spDk Ta kn RRules)) : FnOk P w K mg base CX0 4 f fd ["deck", "room", "most"] (spDk Ta kn RDrawn) := by
  obtain ⟨_, _, G_law_draw, b_law_draw, k_law_draw, m_law_draw⟩ := C1.ex
  obtain ⟨_, _, G_law_signs, b_law_signs, k_law_signs, m_law_signs⟩ := C2.ex
  obtain ⟨_, _, G_law_rules, b_law_rules, k_law_rules, m_law_rules⟩ := C3.ex
  refine fn_k (N := ["room", "most", "signs"]) (ps := ["room", "most"]) (n0 := "deck") (k := 3) F sc_law_drawn (fun ds q ⟨_, h, _⟩ => by rw [h]; rfl) (by decide) fun cdv A outer s H E hr => ⟨_, (dss_cons (ds_of (ps_set (i := 3) sc_law_drawn.nd rfl (Or.inl rfl) (dx_callK (i := 0) G_law_signs (hr.mono (by omega)) rfl m_law_signs k_law_signs b_law_signs (pv 0) (da_cons (dx_op op_add (opS_int _) dx_int (dx_callK (i := 0) G_law_draw (hr.mono (by omega)) rfl m_law_draw k_law_draw b_law_draw (pv 0) (da_cons (dx_op op_sub (opS_int _) (dx_var 2) dx_int) da_nil))) da_nil))) (fun _ _ _ h => h))
    (dss_one (ds_ret (dx_tup (da_cons dx_str (da_cons (dx_var 3) (da_cons (dx_callK (i := 0) G_law_rules (hr.mono (by omega)) rfl m_law_rules k_law_rules b_law_rules (pv 0) (da_cons (dx_var 3) (da_cons (dx_op op_add (opS_int _) dx_int (dx_callK (i := 0) G_law_draw (hr.mono (by omega)) rfl m_law_draw k_law_draw b_law_draw (pv 0) (da_cons (dx_var 2) da_nil))) da_nil))) (da_cons (dx_var 1) da_nil)))))))), fun ds q ⟨ps, h, ok, p0, hq⟩ => ?_⟩
  subst h
  change rSeq _ _ _ [DV.deck, .d _, .d _, .no]
  refine seq_setP (fun d => ∃ S : Str, d = .str S ∧ Low S ∧ Asc S ∧ 2 ≤ S.length ∧ S.length ≤ 4) (fun q' h => ?_) (by simp) ?_
  · simp [and_assoc]
    intro r r0 r1
    obtain ⟨j, rfl⟩ : ∃ j : Nat, r = j := ⟨r.toNat, by omega⟩
    exact ⟨2 + j, by simp, by omega, fun S a b c => h _ ⟨S, rfl, a, b, by omega, by omega⟩⟩
  rintro _ ⟨S, rfl, h1, h2, h3, h4⟩
  simp only [List.set_cons_succ, List.set_cons_zero]
  simp [and_assoc]
  intro r r0 r1
  obtain ⟨j, rfl⟩ : ∃ j : Nat, r = j := ⟨r.toNat, by omega⟩
  refine ⟨S, 1 + j, by simp, by omega, by omega, by omega, by omega, fun R a b => ⟨by decide, ?_⟩⟩
  exact hq S R _ ⟨rfl, h1, h2, h3, by omega, by omega, by omega, by rw [a]; exact b, ok, p0⟩ h4 (by omega)
def RLWord : DFn := fun ds q => ∃ S R ps d, ∃ n : Nat, ds = [d, .int n] ∧ Mach S R ps d ∧ n ≤ 10 ∧ ∀ z, Low z → z.length = n → q (.str z)
theorem ok_lword (F : Fun K "_law_word" "_law_word" s_law_word f fd) (T : Blt mg) (C2 : CallD P w K mg base "_law_pick" 2 ["deck", "some"] (spDk Ta kn RPick)) : FnOk P w K mg base CX0 3 f fd ["deck", "machine", "n"] (spDk Ta kn RLWord) := by
  obtain ⟨_, _, G_law_pick, b_law_pick, k_law_pick, m_law_pick⟩ := C2.ex
  refine fn_k (N := ["machine", "n", "at"]) (ps := ["machine", "n"]) (n0 := "deck") (k := 2) F sc_law_word (fun ds q ⟨_, _, _, _, _, h, _⟩ => by rw [h]; rfl) (by decide) fun cdv A outer s H E hr => ⟨_, (dss_one (ds_ret (dx_ms PySem.F.slot_str_join PySem.F.type_str_join mt_join ms_join dx_str (da_cons (dx_lc (own := [("at", 3)]) rfl sc_law_word.nd (di_range (by rfl) T.range (dx_var 2)) (blkOk_by (N := ["deck", "machine", "n", "at"]) (sc := defScope s_law_word) (by decide +kernel)) (fun _ _ _ _ _ => (pg_name (i := 3) sc_law_word.nd rfl (by first | exact Or.inl rfl | exact Or.inr rfl))) (gs_n 3) (by decide) (fun _ _ _ _ _ => dts_nil) (fun _ _ _ _ _ => (dx_callK (i := 0) G_law_pick (hr.mono (by omega)) rfl m_law_pick k_law_pick b_law_pick (pv 0) (da_cons (dx_op op_cat opS_catL (dx_op op_rep opS_repL (dx_callT (call_listS rfl) callS_listS (by rfl) T.list (by decide +kernel) (da_cons (dx_ix ix_A opS_ix (dx_var 1) dx_int (fun _ _ => rfl)) da_nil)) dx_int) (dx_lst (da_cons dx_str (da_cons dx_str da_nil)))) da_nil)))) da_nil)))), fun ds q ⟨S, R, ps, d, n, h, ok, hn, hq⟩ => ?_⟩
  subst h
  have hS' : S.length ≤ sizeLine := Nat.le_trans ok.s26 (by decide)
  have low := ok.low
  have s26 := ok.s26
  obtain ⟨rfl, _⟩ := ok
  change rRet _ _ [DV.deck, .d _, .d _, .no]
  refine ⟨_, rfl, ?_⟩
  refine rLc_of (noOwn_of (by simp)) (rngV' n (by omega) ?_)
  refine lcB_rel (G := fun _ y => ∃ c, y = .str ⟨#[c]⟩ ∧ (97 ≤ c ∧ c ≤ 122)) (intsD 0 n) (by simp) (by rw [ints_len]; exact Nat.le_trans hn (by decide)) (fun d hd q'' h'' => ?_) fun ys hys => ?_
  · simp [wipeE, hS', and_assoc]
    refine ⟨by rw [signs_len]; omega, by decide, Nat.le_trans (show _ ≤ 1000 by rw [signs_len]; omega) (by decide), ?_⟩
    refine pick_lst (by simp; omega) (by simp; rw [signs_len]; omega) fun x hx => ?_
    have hx' : (∃ c ∈ S.cps.toList, x = .str ⟨#[c]⟩) ∨ x = .str "q" ∨ x = .str "a" := by
      simp at hx
      rcases hx with h | h | h
      · left
        obtain ⟨y, hy, rfl⟩ := List.mem_map.mp h
        exact ⟨y, hy, rfl⟩
      · exact .inr (.inl h)
      · exact .inr (.inr h)
    rcases hx' with ⟨y, hy, rfl⟩ | rfl | rfl
    · exact h'' _ ⟨y, rfl, low y hy⟩
    · exact h'' _ ⟨113, congrArg PyData.str (by decide), by omega, by omega⟩
    · exact h'' _ ⟨97, congrArg PyData.str (by decide), by omega, by omega⟩
  · obtain ⟨cs, rfl, h1, h2⟩ := paired_signs hys
    rw [ints_len] at h2
    refine ⟨_, cs.map one, .inl rfl, rfl, ?_, ?_⟩
    · rw [onesSum, show ("" : Str).length = 0 from rfl]
      omega
    · rw [join_ones]
      exact hq _ h1 (by rw [str_len]; exact h2)
end
end Zk

set_option maxHeartbeats 1000000
/-! N49: the standings that come up from one on; states exchanged. -/
namespace Zk
open PySem PySem.Spec PyProof.Rows L2 GxR TL SX
/-- a standing: state, head, tape -/
abbrev St3 := Nat × Nat × Str
def tD3 (t : St3) : PyData := standD t.1 t.2.1 t.2.2
abbrev Ok3 (S : Str) (m w : Nat) (t : St3) : Prop := Stand S m w t.1 t.2.1 t.2.2
def nxt (S : Str) (R : List PyData) (t : St3) : St3 := match nextD S R t.1 t.2.1 t.2.2 with
  | .tuple [.int a, .int b, .str z] => (a.toNat, b.toNat, z)
  | _ => t
def orb (S : Str) (R : List PyData) (t : St3) : Nat → St3
  | 0 => t
  | i + 1 => nxt S R (orb S R t i)
section
variable {S : Str} {R : List PyData} {ps : List (Int × Int)} {d : PyData} {w : Nat} {t : St3}
theorem nxt_ok (M : Mach S R ps d) (H : Ok3 S R.length w t) : nextD S R t.1 t.2.1 t.2.2 = tD3 (nxt S R t) ∧ Ok3 S R.length w (nxt S R t) := by
  obtain ⟨s', h', z', e, H'⟩ := next_stand M H
  have e2 : nxt S R t = (s', h', z') := by
    unfold nxt
    rw [e]
    simp [standD]
  rw [e2]
  exact ⟨e, H'⟩
theorem orb_ok (M : Mach S R ps d) (H : Ok3 S R.length w t) : ∀ i, Ok3 S R.length w (orb S R t i)
  | 0 => H
  | i + 1 => (nxt_ok M (orb_ok M H i)).2
theorem nxt_halt (h : R.length ≤ t.1) : nxt S R t = t := by
  unfold nxt nextD
  rw [if_pos h]
  simp [standD]
theorem orb_halt {i : Nat} (h : R.length ≤ (orb S R t i).1) : ∀ k, orb S R t (i + k) = orb S R t i
  | 0 => rfl
  | k + 1 => by
    show nxt S R (orb S R t (i + k)) = _
    rw [orb_halt h k, nxt_halt h]
theorem orb_per {j k : Nat} (hj : j < k) (e : orb S R t j = orb S R t k) : ∀ i, ∃ l, l < k ∧ orb S R t i = orb S R t l
  | 0 => ⟨0, by omega, rfl⟩
  | i + 1 => by
    obtain ⟨l, hl, el⟩ := orb_per hj e i
    have e1 : orb S R t (i + 1) = orb S R t (l + 1) := congrArg (nxt S R) el
    by_cases h : l + 1 < k
    · exact ⟨l + 1, h, e1⟩
    · have : l + 1 = k := by omega
      rw [this] at e1
      exact ⟨j, hj, e1.trans e.symm⟩
/-- the state of the last one tells whether a halting state comes up -/
theorem acc_iff {j k s : Nat} (hj : j < k) (e : orb S R t j = orb S R t k) (hs : R.length ≤ s) : (∃ i, (orb S R t i).1 = s) ↔ (orb S R t (k - 1)).1 = s := by
  constructor
  · rintro ⟨i, hi⟩
    obtain ⟨l, hl, el⟩ := orb_per hj e i
    rw [el] at hi
    have := orb_halt (S := S) (R := R) (t := t) (i := l) (by rw [hi]; exact hs) (k - 1 - l)
    rw [show l + (k - 1 - l) = k - 1 by omega] at this
    rw [this]
    exact hi
  · exact fun h => ⟨_, h⟩
end
/-! ### the keys -/
def keyT3 (t : St3) : List Key := [.inl t.1, .inl t.2.1, .inr t.2.2]
theorem key_tD3 (t : St3) : keyTD (tD3 t) = some (keyT3 t) := rfl
theorem key_inj {t u : St3} (h : keyT3 t = keyT3 u) : t = u := by
  obtain ⟨a, b, c⟩ := t
  obtain ⟨a', b', c'⟩ := u
  simp only [keyT3, List.cons.injEq, Sum.inl.injEq, Sum.inr.injEq, and_true] at h
  obtain ⟨h1, h2, h3⟩ := h
  have h1' : a = a' := by omega
  have h2' : b = b' := by omega
  rw [h1', h2', h3]
def kvO (f : Nat → PyData) (o : Nat → St3) (k : Nat) : List (List Key × PyData) := (List.range k).map fun i => (keyT3 (o i), f i)
theorem kvO_len (f : Nat → PyData) (o : Nat → St3) (k : Nat) : (kvO f o k).length = k := by simp [kvO]
theorem kvO_some {f : Nat → PyData} {o : Nat → St3} {k : Nat} {t : St3} {d : PyData} (h : valD (kvO f o k) (keyT3 t) = some d) : ∃ i, i < k ∧ o i = t ∧ d = f i := by
  unfold valD at h
  rw [Option.map_eq_some_iff] at h
  obtain ⟨p, hp, e⟩ := h
  have h1 := List.mem_of_find?_eq_some hp
  have h2 := List.find?_some hp
  unfold kvO at h1
  rw [List.mem_map] at h1
  obtain ⟨i, hi, rfl⟩ := h1
  exact ⟨i, List.mem_range.mp hi, key_inj (of_decide_eq_true h2), e.symm⟩
theorem kvO_none {f : Nat → PyData} {o : Nat → St3} {k : Nat} {t : St3} (h : valD (kvO f o k) (keyT3 t) = none) : ∀ i, i < k → o i ≠ t := by
  unfold valD at h
  rw [Option.map_eq_none_iff, List.find?_eq_none] at h
  intro i hi e
  exact h (keyT3 (o i), f i) (List.mem_map.mpr ⟨i, List.mem_range.mpr hi, rfl⟩) (by simp [e])
theorem putD_new {κ : Type} [DecidableEq κ] {es : List (κ × PyData)} {k : κ} {d : PyData} (h : valD es k = none) : putD es k d = es ++ [(k, d)] := by
  unfold valD at h
  rw [Option.map_eq_none_iff, List.find?_eq_none] at h
  unfold putD
  rw [if_neg]
  rw [List.any_eq_true]
  rintro ⟨x, hx, e⟩
  exact h x hx e
theorem kvO_put {f : Nat → PyData} {o : Nat → St3} {k : Nat} (h : valD (kvO f o k) (keyT3 (o k)) = none) : putD (kvO f o k) (keyT3 (o k)) (f k) = kvO f o (k + 1) := by
  rw [putD_new h]
  unfold kvO
  rw [List.range_succ, List.map_append]
  rfl
def orbL (o : Nat → St3) (k : Nat) : List PyData := (List.range k).map fun i => tD3 (o i)
theorem orbL_len (o : Nat → St3) (k : Nat) : (orbL o k).length = k := by simp [orbL]
theorem orbL_put (o : Nat → St3) (k : Nat) : orbL o k ++ [tD3 (o k)] = orbL o (k + 1) := by
  unfold orbL
  rw [List.range_succ, List.map_append]
  rfl
/-! ### accepting and rejecting exchanged -/
def exS (m s : Nat) : Nat := if m ≤ s then 2 * m + 1 - s else s
def ex3 (m : Nat) (t : St3) : St3 := (exS m t.1, t.2)
def exR (m : Nat) : PyData → PyData
  | .tuple [.int a, .str b, .int v] => .tuple [.int (exS m a.toNat : Nat), .str b, .int v]
  | d => d
def exState (m : Nat) : PyData → PyData
  | .tuple rs => .tuple (rs.map (exR m))
  | d => d
theorem exS_le {m s : Nat} (h : s ≤ m + 1) : exS m s ≤ m + 1 := by
  unfold exS
  split <;> omega
theorem exR_ok {S : Str} {m : Nat} {d : PyData} (h : RuleOk S m d) : RuleOk S m (exR m d) := by
  obtain ⟨s, c, v, rfl, h1, h2, h3, h4⟩ := h
  exact ⟨exS m s, c, v, by simp [exR], exS_le h1, h2, h3, h4⟩
theorem exState_ok {S : Str} {m : Nat} {d : PyData} (h : StateOk S m d) : StateOk S m (exState m d) := by
  obtain ⟨rs, rfl, hl, hr⟩ := h
  refine ⟨rs.map (exR m), rfl, by rw [List.length_map]; exact hl, fun r h => ?_⟩
  obtain ⟨r', h', rfl⟩ := List.mem_map.mp h
  exact exR_ok (hr r' h')
section
variable {S : Str} {R : List PyData} {ps : List (Int × Int)} {d : PyData} {w : Nat} {t : St3}
def exRs (R : List PyData) : List PyData := R.map (exState R.length)
theorem exRs_len : (exRs R).length = R.length := by simp [exRs]
theorem ex_mach (M : Mach S R ps d) : Mach S (exRs R) ps (.tuple [.str "machine", .str S, .tuple (exRs R), polyD ps]) :=
  ⟨rfl, M.low, M.asc, M.s2, M.s26, by rw [exRs_len]; exact M.r1, by rw [exRs_len]; exact M.r24, fun x hx => by
    obtain ⟨y, hy, rfl⟩ := List.mem_map.mp hx
    rw [exRs_len]
    exact exState_ok (M.st y hy), M.po, M.p0⟩
theorem ex_nxt (M : Mach S R ps d) (H : Ok3 S R.length w t) : nxt S (exRs R) (ex3 R.length t) = ex3 R.length (nxt S R t) := by
  by_cases hh : R.length ≤ t.1
  · rw [nxt_halt hh, nxt_halt]
    rw [exRs_len]
    show R.length ≤ exS R.length t.1
    have := H.s0
    unfold exS
    rw [if_pos hh]
    omega
  · obtain ⟨rs, i, a, c, v, y, e1, e2, e3, e4, e5, r1, r2, r3, r4, e6⟩ := next_of M H (by omega)
    have es : exS R.length t.1 = t.1 := by unfold exS; rw [if_neg hh]
    have e7 : (exRs R)[t.1]? = some (.tuple (rs.map (exR R.length))) := by
      unfold exRs
      rw [List.getElem?_map, e1]
      rfl
    have e8 : (rs.map (exR R.length))[i]? = some (.tuple [.int (exS R.length a : Nat), .str ⟨#[c]⟩, .int v]) := by
      rw [List.getElem?_map, e5]
      simp [exR]
    have ey : t.2.2.cps.toList.getD t.2.1 0 = y := by rw [List.getD_eq_getElem?_getD, e2]; rfl
    have e9 : nextD S (exRs R) t.1 t.2.1 t.2.2 = .tuple [.int (exS R.length a : Nat), .int (max 0 (min (t.2.1 + v) (t.2.2.length - 1))), .str (cutS t.2.2 none (some (t.2.1 : Int)) ++ ⟨#[c]⟩ ++ cutS t.2.2 (some (t.2.1 + 1 : Int)) none)] := by
      unfold nextD
      rw [exRs_len, if_neg hh, e7]
      simp only [ey, e4, Int.toNat_natCast, e8]
    unfold nxt
    show (match nextD S (exRs R) (exS R.length t.1) t.2.1 t.2.2 with
      | .tuple [.int a, .int b, .str z] => (a.toNat, b.toNat, z)
      | _ => ex3 R.length t) = _
    rw [es, e9, e6]
    simp [ex3]
theorem orb_ex (M : Mach S R ps d) (H : Ok3 S R.length w t) : ∀ i, orb S (exRs R) (ex3 R.length t) i = ex3 R.length (orb S R t i)
  | 0 => rfl
  | i + 1 => by
    show nxt S (exRs R) (orb S (exRs R) (ex3 R.length t) i) = _
    rw [orb_ex M H i]
    exact ex_nxt M (orb_ok M H i)
theorem acc_ex (M : Mach S R ps d) (H : Ok3 S R.length w t) : (∃ i, (orb S (exRs R) (ex3 R.length t) i).1 = R.length) ↔ ∃ i, (orb S R t i).1 = R.length + 1 := by
  have e : ∀ i, (orb S (exRs R) (ex3 R.length t) i).1 = R.length ↔ (orb S R t i).1 = R.length + 1 := fun i => by
    rw [orb_ex M H i]
    have := (orb_ok M H i).s0
    show exS R.length _ = _ ↔ _
    unfold exS
    split <;> omega
  exact ⟨fun ⟨i, h⟩ => ⟨i, (e i).mp h⟩, fun ⟨i, h⟩ => ⟨i, (e i).mpr h⟩⟩
end
end Zk

set_option maxHeartbeats 1000000
/-! C6: the law's own runs; accepts. -/
namespace Zk
open PySem PySem.Spec PyProof.Rows L2 GxR TL SX
abbrev s_law_orbit : Stmt := top 48
theorem sc_law_orbit : FnScope ["machine", "standing", "most", "found", "at"] ["machine", "standing", "most"] (defScope s_law_orbit) := ⟨rfl, rfl, rfl, by decide +kernel, rfl, by decide +kernel, by decide +kernel⟩
abbrev s_accepts : Stmt := top 31
theorem sc_accepts : FnScope ["machine", "word", "standing", "many", "seen"] ["machine", "word"] (defScope s_accepts) := ⟨rfl, rfl, rfl, by decide +kernel, rfl, by decide +kernel, by decide +kernel⟩
section
variable {P : Program} {w : World} {K : PySem.W.Frag} {mg : Str → Option Value} {base : Heap} {f c pt : Addr} {fd : FuncData} {Ta : List Addr}
/-- so many standings, none twice; the place at which it goes on -/
def ROrb : DFn := fun ds q => ∃ S R ps d t w, ∃ m : Nat, ds = [d, tD3 t, .int m] ∧ Mach S R ps d ∧ Ok3 S R.length w t ∧ w ≤ 1000 ∧ 1 ≤ m ∧ m ≤ 3000 ∧
  ∀ (k : Nat) (again : Int), 1 ≤ k → k ≤ m → (∀ i j, i < j → j < k → orb S R t i ≠ orb S R t j) → ((again = -1 ∧ k = m) ∨ ∃ j : Nat, j < k ∧ again = j ∧ orb S R t j = orb S R t k) → q (.tuple [.list (orbL (orb S R t) k), .int again])
theorem ok_orbit (F : Fun K "_law_orbit" "_law_orbit" s_law_orbit f fd) (T : Blt mg) (C1 : CallD P w K mg base "_law_next" 1 ["machine", "standing"] (spD' Ta RNext)) : FnOk P w K mg base CX0 2 f fd ["machine", "standing", "most"] (spD' Ta ROrb) := by
  obtain ⟨_, _, G_law_next, b_law_next, k_law_next, m_law_next⟩ := C1.ex
  refine fn_d (k := 1) kn F sc_law_orbit (fun ds q ⟨_, _, _, _, _, _, _, h, _⟩ => by rw [h]; rfl) (by decide) fun cdv A outer s H E hr => ⟨_, (dss_cons (ds_par (ps_par (i := 3) (j := 4) rfl sc_law_orbit.nd rfl rfl (by decide) rfl rfl (dp_n da_nil (dp_dT dp_nil)) (by rfl)))
    (dss_cons (ds_while PassesOwn.never (PW.pt (dw_and (dt_notInOT (i := 4) (hu_of hr) (dx_var 1) (pv 4)) (dw_and1 (dt_cmp op_lt (opS_bool _) (dx_lenQ (dq_own 3 (pv 3)) (by rfl) T.len) (dx_var 2) (nomark _))))) (dss_cons (ds_dputT (i := 4) (ps_dput (hu_of hr) (pv 4) (dx_var 1) (dx_lenQ (dq_own 3 (pv 3)) (by rfl) T.len) rfl))
    (dss_cons (ds_app (ps_expr (pe_bm PySem.F.plainAttrs_list PySem.F.slot_list_append PySem.F.type_list_append mt_append (pv 3) (pa_cons (dx_var 1) pa_nil))))
    (dss_one (ds_of (ps_set (i := 1) sc_law_orbit.nd rfl (Or.inl rfl) (dx_call G_law_next (hr.mono (by omega)) rfl m_law_next k_law_next b_law_next (da_cons (dx_var 0) (da_cons (dx_var 1) da_nil)))) (fun _ _ _ h => h))))))
    (dss_frz (i := 3) (dss_one (ds_ret (dx_tup (da_cons (dx_var 3) (da_cons (dx_getT (i := 4) (hu_of hr) (pv 4) (dx_var 1) (dx_neg dx_int) ⟨rfl, rfl, rfl, rfl⟩) da_nil)))))))), fun ds q ⟨S, R, ps, d, t, w, m, h, M, H, hw, m1, m2, hq⟩ => ?_⟩
  subst h
  change rSeq _ _ _ [DV.d _, .d _, .d _, .no, .no]
  refine seq_par (.lst []) (.dct []) (fun q' h => ?_) (by simp) (by simp) ?_
  · simpa using h
  simp only [List.set_cons_succ, List.set_cons_zero]
  have line : m ≤ sizeLine := Nat.le_trans m2 (by decide)
  refine ⟨fun l E => ∃ k : Nat, l = m - k ∧ k ≤ m ∧ E = [.d d, .d (tD3 (orb S R t k)), .d (.int m), .lst (orbL (orb S R t) k), .dct (kvO (fun i => .int i) (orb S R t) k)] ∧ (∀ i j, i < j → j < k → orb S R t i ≠ orb S R t j), ⟨m, 0, by omega, by omega, rfl, fun i j h1 h2 => by omega⟩, ?_⟩
  rintro l E1 ⟨k, rfl, hk, rfl, nd⟩
  have lk : k ≤ sizeLine := by omega
  simp [orbL_len, key_tD3, lk]
  have hsz : sizeLine = 16777216 := sizeLine_eq
  cases hv : valD (kvO (fun i => PyData.int (i : Int)) (orb S R t) k) (keyT3 (orb S R t k)) with
  | none =>
    rw [if_pos rfl]
    have fresh := kvO_none hv
    have nd' : ∀ i j, i < j → j < k + 1 → orb S R t i ≠ orb S R t j := fun i j h1 h2 => by
      by_cases h : j < k
      · exact nd i j h1 h
      · have : j = k := by omega
        subst this
        exact fresh i h1
    by_cases hm : k < m
    · rw [if_pos hm]
      have Hk := orb_ok M H k
      have nk := nxt_ok M Hk
      refine ⟨by rw [kvO_len]; omega, by omega, S, R, ps, d, _, _, _, rfl, M, by rw [Hk.l]; exact Hk, by rw [Hk.l]; exact hw, ?_⟩
      rw [nk.1]
      exact ⟨m - (k + 1), by omega, k + 1, rfl, by omega, ⟨rfl, orbL_put _ _, kvO_put hv⟩, nd'⟩
    · rw [if_neg hm]
      exact ⟨by omega, hq k (-1) (by omega) hk nd (.inl ⟨rfl, by omega⟩)⟩
  | some x =>
    obtain ⟨j, hj, e, rfl⟩ := kvO_some hv
    rw [if_neg (by simp)]
    exact ⟨by omega, hq k j (by omega) hk nd (.inr ⟨j, hj, rfl, e⟩)⟩
/-- whether a machine accepts a word; its run comes to a standing for the second time -/
def RAcc : DFn := fun ds q => ∃ S R ps d z, ∃ n : Nat, ds = [d, .str z] ∧ Mach S R ps d ∧ Low z ∧ z.length ≤ 100 ∧ polyV ps z.length = (n : Int) ∧ 1 ≤ n ∧ n ≤ 1000 ∧
  (∃ j k, j < k ∧ k ≤ 10000 ∧ orb S R (0, 0, firstT S n z) j = orb S R (0, 0, firstT S n z) k) ∧ ∀ b : Bool, (b = true ↔ ∃ i, (orb S R (0, 0, firstT S n z) i).1 = R.length) → q (.bool b)
theorem ok_accepts (F : Fun K "accepts" "accepts" s_accepts f fd) (T : Blt mg) (C1 : CallD P w K mg base "first_standing" 9 ["machine", "word"] (spD' Ta RFirst)) (C2 : CallD P w K mg base "standing_after" 1 ["machine", "standing"] (spD' Ta RNext)) : FnOk P w K mg base CX0 10 f fd ["machine", "word"] (spD' Ta RAcc) := by
  obtain ⟨_, _, G_first_standing, b_first_standing, k_first_standing, m_first_standing⟩ := C1.ex
  obtain ⟨_, _, G_standing_after, b_standing_after, k_standing_after, m_standing_after⟩ := C2.ex
  refine fn_d (k := 9) kn F sc_accepts (fun ds q ⟨_, _, _, _, _, _, h, _⟩ => by rw [h]; rfl) (by decide) fun cdv A outer s H E hr => ⟨_, (dss_cons (ds_of (ps_set (i := 2) sc_accepts.nd rfl (Or.inl rfl) (dx_call G_first_standing (hr.mono (by omega)) rfl m_first_standing k_first_standing b_first_standing (da_cons (dx_var 0) (da_cons (dx_var 1) da_nil)))) (fun _ _ _ h => h))
    (dss_cons (ds_of (ps_set (i := 3) sc_accepts.nd rfl (Or.inl rfl) (dx_callB call_len callS_len (by rfl) T.len PySem.boot_len (da_cons (dx_ix ix_A opS_ix (dx_var 0) dx_int (fun _ _ => rfl)) da_nil))) (fun _ _ _ h => h))
    (dss_cons (ds_dnewT (ps_set (i := 4) sc_accepts.nd rfl (Or.inl rfl) pe_dnewT))
    (dss_cons (ds_while PassesOwn.never (PW.pt (dw_and (dt_cmp op_lt (opS_bool _) (dx_ix ix_A opS_ix (dx_var 2) dx_int (fun _ _ => rfl)) (dx_var 3) (nomark _)) (dw_and1 (dt_notInOT (i := 4) (hu_of hr) (dx_var 2) (pv 4))))) (dss_cons (ds_dputT (i := 4) (ps_dput (hu_of hr) (pv 4) (dx_var 2) dx_bl rfl))
    (dss_one (ds_of (ps_set (i := 2) sc_accepts.nd rfl (Or.inl rfl) (dx_call G_standing_after (hr.mono (by omega)) rfl m_standing_after k_standing_after b_standing_after (da_cons (dx_var 0) (da_cons (dx_var 2) da_nil)))) (fun _ _ _ h => h)))))
    (dss_one (ds_ret (dx_cmp op_eq opS_eq (dx_ix ix_A opS_ix (dx_var 2) dx_int (fun _ _ => rfl)) (dx_var 3) (nomark _)))))))), fun ds q ⟨S, R, ps, d, z, n, h, M, hz, hl, hv, n1, n2, ⟨j, k, hjk, hk, ejk⟩, hq⟩ => ?_⟩
  subst h
  have hsz : sizeLine = 16777216 := sizeLine_eq
  have hR' : R.length ≤ sizeLine := Nat.le_trans M.r24 (by decide)
  have S0 : 0 < S.length := by have := M.s2; omega
  have H0 : Ok3 S R.length n (0, 0, firstT S n z) := first_stand S0 n1
  generalize ho : orb S R (0, 0, firstT S n z) = o at *
  have oi := orb_ok M H0
  rw [ho] at oi
  change rSeq _ _ _ [DV.d _, .d _, .no, .no, .no]
  refine seq_set1 (tD3 (o 0)) (fun q' h => ⟨_, rfl, _, rfl, S, R, ps, d, z, n, rfl, M, hz, hl, hv, n1, n2, by rw [← ho] at h; exact h⟩) (by simp) ?_
  simp only [List.set_cons_succ, List.set_cons_zero]
  refine seq_set1 (.int R.length) (fun q' h => ?_) (by simp) ?_
  · rw [M.e]
    simp [hR']
    exact h
  refine ⟨by simp, ?_⟩
  simp only [List.set_cons_succ, List.set_cons_zero]
  refine ⟨fun l E => ∃ i : Nat, l = k - i ∧ i ≤ k ∧ E = [.d d, .d (.str z), .d (tD3 (o i)), .d (.int R.length), .dct (kvO (fun _ => .bool true) o i)] ∧ ∀ a, a < i → (o a).1 < R.length, ⟨k, 0, by omega, by omega, rfl, fun a h => by omega⟩, ?_⟩
  rintro l E1 ⟨i, rfl, hi, rfl, hb⟩
  simp [key_tD3, tD3, standD]
  by_cases hs : (o i).1 < R.length
  · rw [if_pos hs]
    refine ⟨_, key_tD3 (o i), ?_⟩
    cases hv2 : valD (kvO (fun _ => PyData.bool true) o i) (keyT3 (o i)) with
    | none =>
      rw [if_pos rfl]
      have fresh := kvO_none hv2
      have hik : i < k := by
        rcases Nat.lt_or_ge i k with h | h
        · exact h
        · have : i = k := by omega
          subst this
          exact absurd ejk (fresh j hjk)
      have Hk := oi i
      have nk := nxt_ok M Hk
      refine ⟨_, key_tD3 (o i), by rw [kvO_len]; omega, S, R, ps, d, _, _, _, rfl, M, by rw [Hk.l]; exact Hk, by rw [Hk.l]; omega, ?_⟩
      rw [nk.1]
      refine ⟨k - (i + 1), by omega, i + 1, rfl, by omega, ⟨by rw [← ho]; rfl, kvO_put hv2⟩, fun a ha => ?_⟩
      rcases Nat.lt_or_ge a i with h | h
      · exact hb a h
      · have : a = i := by omega
        rw [this]
        exact hs
    | some x =>
      rw [if_neg (by simp)]
      obtain ⟨a, ha, ea, _⟩ := kvO_some hv2
      refine hq _ ⟨fun h => ?_, fun ⟨b, eb⟩ => ?_⟩
      · have : ((o i).1 : Int) = R.length := by simpa using h
        omega
      · subst ho
        obtain ⟨l, h1, h2⟩ := orb_per ha ea b
        have := hb l h1
        rw [h2] at eb
        omega
  · rw [if_neg hs]
    refine hq _ ⟨fun h => ⟨i, ?_⟩, fun ⟨b, eb⟩ => ?_⟩
    · have : ((o i).1 : Int) = R.length := by simpa using h
      omega
    · rcases Nat.lt_or_ge b i with h | h
      · have := hb b h
        omega
      · subst ho
        have := orb_halt (S := S) (R := R) (t := (0, 0, firstT S n z)) (i := i) (by omega) (b - i)
        rw [show i + (b - i) = b by omega] at this
        rw [this] at eb
        simp [eb]
end
end Zk

set_option maxHeartbeats 1000000
set_option autoImplicit false
/-! N51: polynomials as lists of pairs: sums of pairs, their order, their values. -/
namespace Zk
open PySem PySem.Spec PyProof.Rows L2 GxR TL SX
namespace Pq
abbrev IQ := Int × Int
/-- the sum of the values at e -/
def coef (ps : List IQ) (e : Int) : Int := ((ps.filter fun x => decide (x.1 = e)).map (·.2)).sum
def addK (d : List IQ) (e c : Int) : List IQ := if (d.any fun x => decide (x.1 = e)) = true then d.map fun x => if x.1 = e then (e, x.2 + c) else x else d ++ [(e, c)]
def getK (d : List IQ) (e : Int) : Option Int := (d.find? fun x => decide (x.1 = e)).map (·.2)
def setK (d : List IQ) (e v : Int) : List IQ := if (d.any fun x => decide (x.1 = e)) = true then d.map fun x => if x.1 = e then (e, v) else x else d ++ [(e, v)]
def accP (ps : List IQ) : List IQ := ps.foldl (fun d x => addK d x.1 x.2) []
def AscQ (ys : List IQ) : Prop := ys.Pairwise fun x y => x.1 < y.1
/-- the sum of pairs, in order -/
def Canon (ps ys : List IQ) : Prop := ys.Perm (accP ps) ∧ AscQ ys
theorem any_key {d : List IQ} {e : Int} : (d.any fun x => decide (x.1 = e)) = true ↔ e ∈ d.map (·.1) := by
  rw [List.any_eq_true, List.mem_map]
  exact ⟨fun ⟨x, h, k⟩ => ⟨x, h, of_decide_eq_true k⟩, fun ⟨x, h, k⟩ => ⟨x, h, decide_eq_true k⟩⟩
theorem setK_keys (d : List IQ) (e v : Int) : (setK d e v).map (·.1) = if e ∈ d.map (·.1) then d.map (·.1) else d.map (·.1) ++ [e] := by
  unfold setK
  by_cases h : (d.any fun x => decide (x.1 = e)) = true
  · rw [if_pos h, if_pos (any_key.mp h), List.map_map]
    refine List.map_congr_left fun x _ => ?_
    show (if x.1 = e then (e, v) else x).1 = x.1
    split
    · next q => exact q.symm
    · rfl
  · rw [if_neg h, if_neg fun q => h (any_key.mpr q), List.map_append]
    rfl
theorem setK_nodup {d : List IQ} {e v : Int} (h : (d.map (·.1)).Nodup) : ((setK d e v).map (·.1)).Nodup := by
  rw [setK_keys]
  split
  · exact h
  · next q => exact List.nodup_append.mpr ⟨h, by simp, fun a ha b hb => by
      rw [List.mem_singleton.mp hb]
      intro z
      exact q (z ▸ ha)⟩
theorem setK_len (d : List IQ) (e v : Int) : (setK d e v).length ≤ d.length + 1 := by
  have := congrArg List.length (setK_keys d e v)
  rw [List.length_map] at this
  split at this <;> simp at this <;> omega
theorem setK_mem {d : List IQ} {e v : Int} {x : IQ} (h : x ∈ setK d e v) : x = (e, v) ∨ x ∈ d := by
  unfold setK at h
  split at h
  · obtain ⟨y, hy, q⟩ := List.mem_map.mp h
    split at q
    · exact .inl q.symm
    · exact .inr (q ▸ hy)
  · rcases List.mem_append.mp h with h | h
    · exact .inr h
    · exact .inl (List.mem_singleton.mp h)
theorem getK_some {d : List IQ} {e v : Int} (h : getK d e = some v) : (e, v) ∈ d := by
  unfold getK at h
  cases q : d.find? fun x => decide (x.1 = e) with
  | none => rw [q] at h; cases h
  | some x =>
    rw [q] at h
    have h1 := List.find?_some q
    have h2 := List.mem_of_find?_eq_some q
    obtain ⟨a, b⟩ := x
    have h1 : a = e := of_decide_eq_true h1
    have h : b = v := Option.some.inj h
    subst h1 h
    exact h2
theorem getK_none {d : List IQ} {e : Int} (h : getK d e = none) : e ∉ d.map (·.1) := fun q => by
  unfold getK at h
  rw [Option.map_eq_none_iff, List.find?_eq_none] at h
  obtain ⟨x, hx, k⟩ := List.mem_map.mp q
  exact h x hx (decide_eq_true k)
theorem nodup_eq {d : List IQ} (h : (d.map (·.1)).Nodup) {e a b : Int} (h1 : (e, a) ∈ d) (h2 : (e, b) ∈ d) : a = b := by
  induction d with
  | nil => cases h1
  | cons x d ih =>
    rw [List.map_cons, List.nodup_cons] at h
    rcases List.mem_cons.mp h1 with q1 | q1 <;> rcases List.mem_cons.mp h2 with q2 | q2
    · exact (Prod.mk.inj (q1.trans q2.symm)).2
    · exact absurd (List.mem_map.mpr ⟨_, q2, by rw [← q1]⟩) h.1
    · exact absurd (List.mem_map.mpr ⟨_, q1, by rw [← q2]⟩) h.1
    · exact ih h.2 q1 q2
/-- found[e] = found.get(e, 0) + c -/
theorem addK_set {d : List IQ} {e c : Int} (h : (d.map (·.1)).Nodup) : addK d e c = setK d e ((getK d e).getD 0 + c) := by
  unfold addK setK
  cases q : getK d e with
  | some v =>
    have m := getK_some q
    by_cases k : (d.any fun x => decide (x.1 = e)) = true
    · rw [if_pos k, if_pos k]
      refine List.map_congr_left fun x hx => ?_
      by_cases z : x.1 = e
      · rw [if_pos z, if_pos z]
        have : x.2 = v := nodup_eq h (e := e) (by rw [← z]; exact hx) m
        rw [this]
        rfl
      · rw [if_neg z, if_neg z]
    · exact absurd (any_key.mpr (List.mem_map.mpr ⟨_, m, rfl⟩)) k
  | none =>
    have n := getK_none q
    have k : ¬ (d.any fun x => decide (x.1 = e)) = true := fun z => n (any_key.mp z)
    rw [if_neg k, if_neg k]
    show d ++ [(e, c)] = d ++ [(e, 0 + c)]
    rw [Int.zero_add]

/-! ### what the pairs come to -/
theorem addK_keys (d : List IQ) (e c : Int) : (addK d e c).map (·.1) = if e ∈ d.map (·.1) then d.map (·.1) else d.map (·.1) ++ [e] := by
  unfold addK
  by_cases h : (d.any fun x => decide (x.1 = e)) = true
  · rw [if_pos h, if_pos (any_key.mp h), List.map_map]
    refine List.map_congr_left fun x _ => ?_
    show (if x.1 = e then (e, x.2 + c) else x).1 = x.1
    split
    · next q => exact q.symm
    · rfl
  · rw [if_neg h, if_neg fun q => h (any_key.mpr q), List.map_append]
    rfl
theorem addK_nodup {d : List IQ} {e c : Int} (h : (d.map (·.1)).Nodup) : ((addK d e c).map (·.1)).Nodup := by
  rw [addK_set h]
  exact setK_nodup h
theorem addK_len {d : List IQ} (e c : Int) (h : (d.map (·.1)).Nodup) : (addK d e c).length ≤ d.length + 1 := by
  rw [addK_set h]
  exact setK_len d e _
/-- a property of the pairs that sums keep -/
theorem addK_all {d : List IQ} {e c : Int} {p : IQ → Prop} (hd : ∀ x ∈ d, p x) (h0 : p (e, c)) (hs : ∀ b, p (e, b) → p (e, b + c)) : ∀ x ∈ addK d e c, p x := fun x hx => by
  unfold addK at hx
  split at hx
  · obtain ⟨y, hy, q⟩ := List.mem_map.mp hx
    split at q
    · next z =>
      have := hd y hy
      obtain ⟨a, b⟩ := y
      have z : a = e := z
      subst z
      rw [← q]
      exact hs b this
    · rw [← q]
      exact hd y hy
  · rcases List.mem_append.mp hx with hx | hx
    · exact hd x hx
    · rw [List.mem_singleton.mp hx]
      exact h0
theorem sum_map_perm {α : Type} (f : α → Int) {a b : List α} (h : a.Perm b) : (a.map f).sum = (b.map f).sum := by
  induction h with
  | nil => rfl
  | cons x _ ih => simp only [List.map_cons, List.sum_cons, ih]
  | swap x y l =>
    simp only [List.map_cons, List.sum_cons]
    omega
  | trans _ _ h1 h2 => rw [h1, h2]
theorem sum_map_add {α : Type} (f : α → Int) (a b : List α) : ((a ++ b).map f).sum = (a.map f).sum + (b.map f).sum := by
  induction a with
  | nil => simp
  | cons x a ih =>
    simp only [List.cons_append, List.map_cons, List.sum_cons, ih]
    omega
/-- a sum over the pairs that is linear in the coefficient -/
def lin (f : Int → Int) (ps : List IQ) : Int := (ps.map fun x => x.2 * f x.1).sum
theorem lin_perm (f : Int → Int) {a b : List IQ} (h : a.Perm b) : lin f a = lin f b := sum_map_perm _ h
theorem lin_app (f : Int → Int) (a b : List IQ) : lin f (a ++ b) = lin f a + lin f b := sum_map_add _ a b
theorem lin_cons (f : Int → Int) (x : IQ) (a : List IQ) : lin f (x :: a) = x.2 * f x.1 + lin f a := by simp [lin]
theorem lin_addK (f : Int → Int) : ∀ {d : List IQ} {e c : Int}, (d.map (·.1)).Nodup → lin f (addK d e c) = lin f d + c * f e
  | d, e, c, h => by
    unfold addK
    by_cases k : (d.any fun x => decide (x.1 = e)) = true
    · rw [if_pos k]
      induction d with
      | nil => simp at k
      | cons x d ih =>
        rw [List.map_cons, List.nodup_cons] at h
        rw [List.map_cons, lin_cons, lin_cons]
        by_cases z : x.1 = e
        · rw [if_pos z]
          have e1 : (d.map fun x => if x.1 = e then (e, x.2 + c) else x) = d := by
            rw [List.map_congr_left (g := id), List.map_id]
            intro y hy
            have : y.1 ≠ e := fun q => h.1 (List.mem_map.mpr ⟨y, hy, by rw [q, z]⟩)
            rw [if_neg this]
            rfl
          rw [e1]
          show (x.2 + c) * f e + _ = _
          rw [Int.add_mul, z]
          omega
        · rw [if_neg z]
          have k' : (d.any fun x => decide (x.1 = e)) = true := by
            rw [List.any_cons, decide_eq_false z, Bool.false_or] at k
            exact k
          rw [ih h.2 k']
          omega
    · rw [if_neg k, lin_app]
      simp [lin]
theorem acc_inv (ps : List IQ) : ∀ d : List IQ, (d.map (·.1)).Nodup → ((ps.foldl (fun d x => addK d x.1 x.2) d).map (·.1)).Nodup ∧ (ps.foldl (fun d x => addK d x.1 x.2) d).length ≤ d.length + ps.length ∧
    (∀ f, lin f (ps.foldl (fun d x => addK d x.1 x.2) d) = lin f d + lin f ps) ∧ ∀ e, e ∈ (ps.foldl (fun d x => addK d x.1 x.2) d).map (·.1) ↔ e ∈ d.map (·.1) ∨ e ∈ ps.map (·.1) := by
  induction ps with
  | nil => exact fun d h => ⟨h, Nat.le_refl _, fun f => by simp [lin], fun e => by simp⟩
  | cons x ps ih =>
    intro d h
    obtain ⟨h1, h2, h3, h4⟩ := ih (addK d x.1 x.2) (addK_nodup h)
    have hl := addK_len x.1 x.2 h
    refine ⟨h1, by rw [List.foldl_cons, List.length_cons]; omega, fun f => ?_, fun e => ?_⟩
    · rw [List.foldl_cons, h3, lin_addK f h, lin_cons]
      omega
    · rw [List.foldl_cons, h4, addK_keys]
      simp only [List.map_cons, List.mem_cons]
      split
      · next q => exact ⟨fun z => z.elim .inl fun z => .inr (.inr z), fun z => z.elim .inl fun z => z.elim (fun z => .inl (z ▸ q)) .inr⟩
      · simp only [List.mem_append, List.mem_singleton]
        exact ⟨fun z => z.elim (fun z => z.elim .inl fun z => .inr (.inl z)) fun z => .inr (.inr z), fun z => z.elim (fun z => .inl (.inl z)) fun z => z.elim (fun z => .inl (.inr z)) .inr⟩
theorem acc_nodup (ps : List IQ) : ((accP ps).map (·.1)).Nodup := (acc_inv ps [] List.nodup_nil).1
theorem acc_len (ps : List IQ) : (accP ps).length ≤ ps.length := by
  have := (acc_inv ps [] List.nodup_nil).2.1
  simpa [accP] using this
theorem acc_lin (f : Int → Int) (ps : List IQ) : lin f (accP ps) = lin f ps := by
  have := (acc_inv ps [] List.nodup_nil).2.2.1 f
  simpa [accP, lin] using this
theorem acc_keys (ps : List IQ) (e : Int) : e ∈ (accP ps).map (·.1) ↔ e ∈ ps.map (·.1) := by
  have := (acc_inv ps [] List.nodup_nil).2.2.2 e
  simpa [accP] using this
theorem acc_all {p : IQ → Prop} (hs : ∀ e b c, p (e, b) → p (e, c) → p (e, b + c)) (ps : List IQ) (h : ∀ x ∈ ps, p x) : ∀ x ∈ accP ps, p x := by
  have : ∀ d : List IQ, (∀ x ∈ d, p x) → ∀ x ∈ ps.foldl (fun d x => addK d x.1 x.2) d, p x := by
    induction ps with
    | nil => exact fun d h => h
    | cons y ps ih =>
      intro d hd
      rw [List.foldl_cons]
      exact ih (fun x hx => h x (List.mem_cons_of_mem _ hx)) _ (addK_all hd (h y List.mem_cons_self) fun b hb => hs _ _ _ hb (h y List.mem_cons_self))
  exact this [] (fun x hx => absurd hx List.not_mem_nil)
/-- what stands at e -/
def at1 (e : Int) : Int → Int := fun k => if k = e then 1 else 0
theorem lin_at {d : List IQ} (h : (d.map (·.1)).Nodup) {e c : Int} (m : (e, c) ∈ d) : lin (at1 e) d = c := by
  induction d with
  | nil => cases m
  | cons x d ih =>
    rw [List.map_cons, List.nodup_cons] at h
    rw [lin_cons]
    rcases List.mem_cons.mp m with q | q
    · have z : lin (at1 e) d = 0 := by
        have : ∀ l : List IQ, (∀ y ∈ l, y.1 ≠ e) → lin (at1 e) l = 0 := fun l => by
          induction l with
          | nil => intro _; rfl
          | cons y l ih =>
            intro hl
            rw [lin_cons, ih fun z hz => hl z (List.mem_cons_of_mem _ hz)]
            show y.2 * (if y.1 = e then 1 else 0) + 0 = 0
            rw [if_neg (hl y List.mem_cons_self)]
            simp
        exact this d fun y hy k => h.1 (List.mem_map.mpr ⟨y, hy, by rw [k, ← q]⟩)
      rw [z, ← q]
      show c * (if e = e then 1 else 0) + 0 = c
      rw [if_pos rfl]
      omega
    · have : x.1 ≠ e := fun k => h.1 (List.mem_map.mpr ⟨_, q, k.symm⟩)
      show x.2 * (if x.1 = e then 1 else 0) + _ = c
      rw [if_neg this, ih h.2 q]
      omega
theorem asc_nodup {ys : List IQ} (h : AscQ ys) : (ys.map (·.1)).Nodup := by
  rw [List.Nodup, List.pairwise_map]
  exact h.imp fun q z => by omega
theorem asc_uniq : ∀ {a b : List IQ}, AscQ a → AscQ b → a.Perm b → a = b
  | [], b, _, _, h => (List.Perm.eq_nil h.symm).symm
  | x :: a, [], _, _, h => absurd h.length_eq (by simp)
  | x :: a, y :: b, ha, hb, h => by
    have hx : x ∈ y :: b := h.mem_iff.mp List.mem_cons_self
    have hy : y ∈ x :: a := h.mem_iff.mpr List.mem_cons_self
    have e : x = y := by
      rcases List.mem_cons.mp hx with q | q
      · exact q
      · rcases List.mem_cons.mp hy with q2 | q2
        · exact q2.symm
        · have h1 := (List.pairwise_cons.mp hb).1 x q
          have h2 := (List.pairwise_cons.mp ha).1 y q2
          omega
    subst e
    rw [asc_uniq (List.pairwise_cons.mp ha).2 (List.pairwise_cons.mp hb).2 h.cons_inv]
/-- lists of the same pairs have one sum -/
theorem canon_uniq {ps qs a b : List IQ} (h : ps.Perm qs) (ha : Canon ps a) (hb : Canon qs b) : a = b := by
  refine asc_uniq ha.2 hb.2 (ha.1.trans (List.Perm.trans ?_ hb.1.symm))
  have sub : ∀ {ps qs : List IQ}, ps.Perm qs → ∀ x, x ∈ accP ps → x ∈ accP qs := fun {ps qs} h x hx => by
    have hk : x.1 ∈ (accP qs).map (·.1) := by
      rw [acc_keys, ← (h.map (·.1)).mem_iff, ← acc_keys]
      exact List.mem_map.mpr ⟨x, hx, rfl⟩
    obtain ⟨y, hy, e⟩ := List.mem_map.mp hk
    have h1 := lin_at (acc_nodup ps) (e := x.1) (c := x.2) hx
    have h2 := lin_at (acc_nodup qs) (e := x.1) (c := y.2) (by rw [← e]; exact hy)
    rw [acc_lin] at h1 h2
    rw [lin_perm _ h] at h1
    have : x = y := Prod.ext e.symm (h1.symm.trans h2)
    rw [this]
    exact hy
  have nd : ∀ ps : List IQ, (accP ps).Nodup := fun ps => (List.pairwise_map.mp (acc_nodup ps)).imp fun q e => q (by rw [e])
  exact (List.perm_ext_iff_of_nodup (nd ps) (nd qs)).mpr fun x => ⟨sub h x, sub h.symm x⟩
theorem canon_lin (f : Int → Int) {ps ys : List IQ} (h : Canon ps ys) : lin f ys = lin f ps := (lin_perm f h.1).trans (acc_lin f ps)
theorem canon_len {ps ys : List IQ} (h : Canon ps ys) : ys.length ≤ ps.length := by
  rw [h.1.length_eq]
  exact acc_len ps
theorem canon_all {p : IQ → Prop} (hs : ∀ e b c, p (e, b) → p (e, c) → p (e, b + c)) {ps ys : List IQ} (h : Canon ps ys) (hp : ∀ x ∈ ps, p x) : ∀ x ∈ ys, p x := fun x hx => acc_all hs ps hp x (h.1.mem_iff.mp hx)

/-! ### products -/
def mulP (p q : List IQ) : List IQ := p.flatMap fun x => q.map fun y => (x.1 + y.1, x.2 * y.2)
theorem mulP_cons (x : IQ) (p q : List IQ) : mulP (x :: p) q = (q.map fun y => (x.1 + y.1, x.2 * y.2)) ++ mulP p q := by simp [mulP]
theorem mulP_consR (x : IQ) (p : List IQ) : ∀ q : List IQ, (mulP q (x :: p)).Perm ((q.map fun y => (y.1 + x.1, y.2 * x.2)) ++ mulP q p)
  | [] => by simp [mulP]
  | y :: q => by
    rw [mulP_cons, mulP_cons, List.map_cons, List.map_cons, List.cons_append, List.cons_append]
    refine List.Perm.cons _ ?_
    have h := mulP_consR x p q
    refine (List.Perm.append_left _ h).trans ?_
    rw [← List.append_assoc, ← List.append_assoc]
    exact List.Perm.append_right _ List.perm_append_comm
theorem mulP_comm : ∀ p q : List IQ, (mulP p q).Perm (mulP q p)
  | [], q => by
    have : mulP q [] = [] := by
      induction q with
      | nil => rfl
      | cons y q ih => rw [mulP_cons, ih]; rfl
    rw [this]
    exact List.Perm.refl _
  | x :: p, q => by
    rw [mulP_cons]
    refine (List.Perm.append_left _ (mulP_comm p q)).trans ?_
    refine List.Perm.trans ?_ (mulP_consR x p q).symm
    rw [show (q.map fun y => (x.1 + y.1, x.2 * y.2)) = q.map fun y => (y.1 + x.1, y.2 * x.2) from List.map_congr_left fun y _ => by rw [Int.add_comm, Int.mul_comm]]
theorem mulP_len : ∀ p q : List IQ, (mulP p q).length = p.length * q.length
  | [], q => by simp [mulP]
  | x :: p, q => by
    rw [mulP_cons, List.length_append, List.length_map, mulP_len p q, List.length_cons, Nat.succ_mul]
    exact Nat.add_comm _ _
/-- the value -/
def pw (k : Nat) : Int → Int := fun e => ((k ^ e.toNat : Nat) : Int)
def evalP (p : List IQ) (k : Nat) : Int := lin (pw k) p
theorem pw_add (k : Nat) {a b : Int} (ha : 0 ≤ a) (hb : 0 ≤ b) : pw k (a + b) = pw k a * pw k b := by
  unfold pw
  rw [Int.toNat_add ha hb, Nat.pow_add, Int.natCast_mul]
theorem mul_lin {k : Nat} {x : IQ} (hx : 0 ≤ x.1) : ∀ {q : List IQ}, (∀ y ∈ q, 0 ≤ y.1) → lin (pw k) (q.map fun y => (x.1 + y.1, x.2 * y.2)) = x.2 * pw k x.1 * lin (pw k) q
  | [], _ => by simp [lin]
  | y :: q, h => by
    rw [List.map_cons, lin_cons, lin_cons, mul_lin hx fun z hz => h z (List.mem_cons_of_mem _ hz), Int.mul_add, pw_add k hx (h y List.mem_cons_self)]
    have : x.2 * y.2 * (pw k x.1 * pw k y.1) = x.2 * pw k x.1 * (y.2 * pw k y.1) := by
      rw [Int.mul_assoc, Int.mul_assoc, Int.mul_left_comm y.2]
    rw [this]
theorem eval_mul {k : Nat} : ∀ {p q : List IQ}, (∀ x ∈ p, 0 ≤ x.1) → (∀ y ∈ q, 0 ≤ y.1) → evalP (mulP p q) k = evalP p k * evalP q k
  | [], q, _, _ => by simp [mulP, evalP, lin]
  | x :: p, q, hp, hq => by
    have ih := eval_mul (k := k) (p := p) (q := q) (fun z hz => hp z (List.mem_cons_of_mem _ hz)) hq
    unfold evalP at ih ⊢
    rw [mulP_cons, lin_app, mul_lin (hp x List.mem_cons_self) hq, ih, lin_cons, Int.add_mul]
/-! ### dicts of ints -/
theorem valV_dI {d : List IQ} {e : Int} : valV (dI d) (.inl e) = (getK d e).map V.int := by
  unfold valV getK dI
  rw [List.find?_map, Option.map_map, Option.map_map]
  have : ((fun kv : Key × V => decide (kv.1 = Sum.inl e)) ∘ fun x : IP => ((Sum.inl x.1 : Key), V.int x.2)) = fun x : IQ => decide (x.1 = e) := by
    funext x
    show decide ((Sum.inl x.1 : Key) = Sum.inl e) = _
    by_cases z : x.1 = e
    · rw [z, decide_eq_true rfl, decide_eq_true rfl]
    · rw [decide_eq_false z, decide_eq_false fun q => z (Sum.inl.inj q)]
  rw [this]
  rfl
theorem any_dI {d : List IQ} {e : Int} : ((dI d).any fun kv => decide (kv.1 = Sum.inl e)) = d.any fun x => decide (x.1 = e) := by
  unfold dI
  rw [List.any_map]
  congr 1
  funext x
  show decide ((Sum.inl x.1 : Key) = Sum.inl e) = _
  by_cases z : x.1 = e
  · rw [z, decide_eq_true rfl, decide_eq_true rfl]
  · rw [decide_eq_false z, decide_eq_false fun q => z (Sum.inl.inj q)]
theorem putK_dI {d : List IQ} {e v : Int} : putK (dI d) (.inl e) (.int v) = dI (setK d e v) := by
  unfold putK setK
  rw [any_dI]
  split
  · unfold dI
    rw [List.map_map, List.map_map]
    refine List.map_congr_left fun x _ => ?_
    show (if (Sum.inl x.1 : Key) = Sum.inl e then ((Sum.inl x.1 : Key), V.int v) else (Sum.inl x.1, V.int x.2)) = (Sum.inl (if x.1 = e then (e, v) else x).1, V.int (if x.1 = e then (e, v) else x).2)
    by_cases z : x.1 = e
    · rw [if_pos (by rw [z]), if_pos z, z]
    · rw [if_neg fun q => z (Sum.inl.inj q), if_neg z]
  · unfold dI
    rw [List.map_append]
    rfl
theorem acc_snoc (l : List IQ) (x : IQ) : accP (l ++ [x]) = addK (accP l) x.1 x.2 := by
  unfold accP
  rw [List.foldl_append]
  rfl
theorem lex_asc {d ys : List IQ} (nd : (d.map (·.1)).Nodup) (hp : ys.Perm d) (h : ys.Pairwise fun x y => SrtO.lexB y x = false) : AscQ ys := by
  have ndy : (ys.map (·.1)).Nodup := (hp.map (·.1)).nodup_iff.mpr nd
  have nd2 := List.pairwise_map.mp ndy
  refine (h.and nd2).imp fun {x y} q => ?_
  obtain ⟨q1, q2⟩ := q
  have := SrtO.lexB_no.mp q1
  omega

theorem valD_kvI {d : List IQ} {e : Int} : valD (kvI d) (.inl e) = (getK d e).map PyData.int := by
  unfold valD getK kvI
  rw [List.find?_map, Option.map_map, Option.map_map]
  have : ((fun kv : Key × PyData => decide (kv.1 = Sum.inl e)) ∘ fun x : IP => ((Sum.inl x.1 : Key), PyData.int x.2)) = fun x : IQ => decide (x.1 = e) := by
    funext x
    show decide ((Sum.inl x.1 : Key) = Sum.inl e) = _
    by_cases z : x.1 = e
    · rw [z, decide_eq_true rfl, decide_eq_true rfl]
    · rw [decide_eq_false z, decide_eq_false fun q => z (Sum.inl.inj q)]
  rw [this]
  rfl
theorem any_kvI {d : List IQ} {e : Int} : ((kvI d).any fun kv => decide (kv.1 = Sum.inl e)) = d.any fun x => decide (x.1 = e) := by
  unfold kvI
  rw [List.any_map]
  congr 1
  funext x
  show decide ((Sum.inl x.1 : Key) = Sum.inl e) = _
  by_cases z : x.1 = e
  · rw [z, decide_eq_true rfl, decide_eq_true rfl]
  · rw [decide_eq_false z, decide_eq_false fun q => z (Sum.inl.inj q)]
theorem putD_kvI {d : List IQ} {e v : Int} : putD (kvI d) (.inl e) (.int v) = kvI (setK d e v) := by
  unfold putD setK
  rw [any_kvI]
  split
  · unfold kvI
    rw [List.map_map, List.map_map]
    refine List.map_congr_left fun x _ => ?_
    show (if (Sum.inl x.1 : Key) = Sum.inl e then ((Sum.inl x.1 : Key), PyData.int v) else (Sum.inl x.1, PyData.int x.2)) = (Sum.inl (if x.1 = e then (e, v) else x).1, PyData.int (if x.1 = e then (e, v) else x).2)
    by_cases z : x.1 = e
    · rw [if_pos (by rw [z]), if_pos z, z]
    · rw [if_neg fun q => z (Sum.inl.inj q), if_neg z]
  · unfold kvI
    rw [List.map_append]
    rfl
end Pq
end Zk

set_option maxHeartbeats 1000000
/-! D51: sums and products of polynomials, depths. -/
namespace Zk
open PySem PySem.Spec PyProof.Rows L2 GxR TL SX Pq
abbrev s_check_both : Stmt := top 19
theorem sc_check_both : FnScope ["poly", "other"] ["poly", "other"] (defScope s_check_both) := ⟨rfl, rfl, rfl, by decide +kernel, rfl, by decide +kernel, by decide +kernel⟩
abbrev s_gathered : Stmt := top 20
theorem sc_gathered : FnScope ["pairs", "totals", "exponent", "coefficient"] ["pairs"] (defScope s_gathered) := ⟨rfl, rfl, rfl, by decide +kernel, rfl, by decide +kernel, by decide +kernel⟩
abbrev s_sum_of : Stmt := top 17
theorem sc_sum_of : FnScope ["poly", "other"] ["poly", "other"] (defScope s_sum_of) := ⟨rfl, rfl, rfl, by decide +kernel, rfl, by decide +kernel, by decide +kernel⟩
abbrev s_product_of : Stmt := top 18
theorem sc_product_of : FnScope ["poly", "other", "one", "two"] ["poly", "other"] (defScope s_product_of) := ⟨rfl, rfl, rfl, by decide +kernel, rfl, by decide +kernel, by decide +kernel⟩
abbrev s_constant : Stmt := top 21
theorem sc_constant : FnScope ["number"] ["number"] (defScope s_constant) := ⟨rfl, rfl, rfl, by decide +kernel, rfl, by decide +kernel, by decide +kernel⟩
abbrev s_digits : Stmt := top 29
theorem sc_digits : FnScope ["number"] ["number"] (defScope s_digits) := ⟨rfl, rfl, rfl, by decide +kernel, rfl, by decide +kernel, by decide +kernel⟩
abbrev s_depth : Stmt := top 28
theorem sc_depth : FnScope ["machine", "_", "signs", "rules", "room"] ["machine"] (defScope s_depth) := ⟨rfl, rfl, rfl, by decide +kernel, rfl, by decide +kernel, by decide +kernel⟩
section
variable {P : Program} {w : World} {K : PySem.W.Frag} {mg : Str → Option Value} {base : Heap} {f c pt : Addr} {fd : FuncData} {Ta : List Addr}
theorem kv_step {d : List IQ} (nd : (d.map (·.1)).Nodup) (e c : Int) : ∃ i, (valD (kvI d) (.inl e)).getD (PyData.int 0) = PyData.int i ∧ putD (kvI d) (.inl e) (.int (i + c)) = kvI (addK d e c) := by
  refine ⟨(getK d e).getD 0, ?_, ?_⟩
  · rw [valD_kvI]
    cases getK d e <;> rfl
  · rw [putD_kvI, ← addK_set nd]
theorem kvI_len (d : List IQ) : (kvI d).length = d.length := List.length_map ..
def RBoth : DFn := fun ds q => ∃ p r, ds = [polyD p, polyD r] ∧ PolyOk p ∧ PolyOk r ∧ q .none
theorem ok_both (F : Fun K "check_both" "check_both" s_check_both f fd) (T : Blt mg) (C1 : CallD P w K mg base "is_poly" 4 ["thing"] (spD' Ta RPoly)) : FnOk P w K mg base CX0 5 f fd ["poly", "other"] (spD' Ta RBoth) := by
  obtain ⟨_, _, G_is_poly, b_is_poly, k_is_poly, m_is_poly⟩ := C1.ex
  refine fn_d (k := 4) kn F sc_check_both (fun ds q ⟨_, _, h, _⟩ => by rw [h]; rfl) (by decide) fun cdv A outer s H E hr => ⟨_, (dss_cons (ds_if (dt_not (dt_val (dx_call G_is_poly (hr.mono (by omega)) rfl m_is_poly k_is_poly b_is_poly (da_cons (dx_var 0) da_nil)))) (dss_one ds_dead) dss_nil)
    (dss_one (ds_if (dt_not (dt_val (dx_call G_is_poly (hr.mono (by omega)) rfl m_is_poly k_is_poly b_is_poly (da_cons (dx_var 1) da_nil)))) (dss_one ds_dead) dss_nil))), fun ds q ⟨p, r, h, hp, hr', hq⟩ => ?_⟩
  subst h
  change rSeq _ _ _ [DV.d _, .d _]
  refine seq_skip (fun k hk => ?_) ?_
  · exact ⟨_, rfl, p, rfl, hp, true, rfl, hk⟩
  refine ⟨_, rfl, r, rfl, hr', true, rfl, iteF hq⟩
def RGath : DFn := fun ds q => ∃ L : List IQ, ds = [.list (L.map prD)] ∧ L.length ≤ 10000 ∧ ∀ ys, Canon L ys → q (polyD ys)
theorem ok_gath (F : Fun K "gathered" "gathered" s_gathered f fd) (T : Blt mg) : FnOk P w K mg base CX0 1 f fd ["pairs"] (spD' Ta RGath) := by
  refine fn_d (k := 0) kn F sc_gathered (fun ds q ⟨_, h, _⟩ => by rw [h]; rfl) (by decide) fun cdv A outer s H E hr => ⟨_, (dss_cons (ds_dnew (ps_set (i := 1) sc_gathered.nd rfl (Or.inl rfl) pe_dnewK))
    (dss_cons (ds_for PassesOwn.never rfl (di_seq (dx_var 0)) (pg_tup (n := 2) (by rfl) (pgs_cons (pg_name (i := 2) sc_gathered.nd rfl (Or.inl rfl)) (pgs_cons (pg_name (i := 3) sc_gathered.nd rfl (Or.inl rfl)) pgs_nil))) (gs_tup (gss_cons (gs_n 2) (gss_cons (gs_n 3) gss_nil))) (dss_one (ds_dput (i := 1) (ps_dput (hu_of hr) (pv 1) (dx_var 2) (dx_op op_add (opS_int _) (dx_getD (i := 1) (hu_of hr) (pv 1) (dx_var 2) dx_int ⟨rfl, rfl, rfl, rfl⟩) (dx_var 3)) rfl))))
    (dss_one (ds_ret (dx_tupleQ (dq_data (dx_sortItems (i := 1) rfl (by rfl) T.sorted (pv 1))) (by rfl) T.tuple))))), fun ds q ⟨L, h, hL, hq⟩ => ?_⟩
  subst h
  have hsz : sizeLine = 16777216 := sizeLine_eq
  change rSeq _ _ _ [DV.d _, .no, .no, .no]
  refine ⟨by simp, ?_⟩
  simp only [List.set_cons_succ, List.set_cons_zero]
  refine seq_for (L.map prD) (fun k E => ∃ e2 e3 : DV, E = [.d (.list (L.map prD)), .dic (kvI (accP (L.take k))), e2, e3]) (fun q' h => ⟨_, rfl, _, .inl rfl, h⟩) ⟨_, _, rfl⟩ ?_ ?_
  · rintro k d E' hd ⟨e2, e3, rfl⟩
    rw [List.getElem?_map] at hd
    obtain ⟨p, hp, rfl⟩ : ∃ p, L[k]? = some p ∧ d = prD p := by
      cases e : L[k]? with
      | none => rw [e] at hd; cases hd
      | some p => rw [e] at hd; exact ⟨p, rfl, (Option.some.inj hd).symm⟩
    have len : (accP (L.take k)).length ≤ 10000 := Nat.le_trans (acc_len _) (Nat.le_trans (by rw [List.length_take]; omega) hL)
    refine ⟨_, rfl, rfl, _, _, rfl, by simp, _, _, rfl, by simp, rfl, ?_⟩
    simp only [List.set_cons_succ, List.set_cons_zero]
    simp
    obtain ⟨i, h1, h2⟩ := kv_step (acc_nodup (L.take k)) p.1 p.2
    refine ⟨i, h1, by rw [kvI_len]; omega, ?_⟩
    rw [h2, List.take_add_one, hp]
    show _ = kvI (accP (L.take k ++ [p]))
    rw [acc_snoc]
  · rintro E' ⟨e2, e3, rfl⟩
    simp
    refine ⟨_, rfl, Nat.le_trans (acc_len L) (by omega), fun ys h1 h2 => hq ys ⟨h1, lex_asc (acc_nodup L) h1 h2⟩⟩
def RSum : DFn := fun ds q => ∃ p r, ds = [polyD p, polyD r] ∧ PolyOk p ∧ PolyOk r ∧ ∀ ys, Canon (p ++ r) ys → q (polyD ys)
theorem ok_sum (F : Fun K "sum_of" "sum_of" s_sum_of f fd) (T : Blt mg) (C1 : CallD P w K mg base "check_both" 5 ["poly", "other"] (spD' Ta RBoth)) (C2 : CallD P w K mg base "gathered" 1 ["pairs"] (spD' Ta RGath)) : FnOk P w K mg base CX0 6 f fd ["poly", "other"] (spD' Ta RSum) := by
  obtain ⟨_, _, G_check_both, b_check_both, k_check_both, m_check_both⟩ := C1.ex
  obtain ⟨_, _, G_gathered, b_gathered, k_gathered, m_gathered⟩ := C2.ex
  refine fn_d (k := 5) kn F sc_sum_of (fun ds q ⟨_, _, h, _⟩ => by rw [h]; rfl) (by decide) fun cdv A outer s H E hr => ⟨_, (dss_cons (ds_expr (dx_call G_check_both (hr.mono (by omega)) rfl m_check_both k_check_both b_check_both (da_cons (dx_var 0) (da_cons (dx_var 1) da_nil))))
    (dss_one (ds_ret (dx_call G_gathered (hr.mono (by omega)) rfl m_gathered k_gathered b_gathered (da_cons (dx_op op_cat opS_catL (dx_listQ (dq_data (dx_var 0)) (by rfl) T.list) (dx_listQ (dq_data (dx_var 1)) (by rfl) T.list)) da_nil))))), fun ds q ⟨p, r, h, hp, hr', hq⟩ => ?_⟩
  subst h
  change rSeq _ _ _ [DV.d _, .d _]
  refine ⟨_, rfl, _, rfl, p, r, rfl, hp, hr', ?_⟩
  have h1 := hp.len
  have h2 := hr'.len
  have hsz : sizeLine = 16777216 := sizeLine_eq
  simp [polyD]
  refine ⟨by omega, p ++ r, by rw [List.map_append]; rfl, by rw [List.length_append]; omega, hq⟩
def hMul : PyData → PyData → PyData
  | .tuple [.int a, .int b], .tuple [.int a', .int b'] => .tuple [.int (a + a'), .int (b * b')]
  | _, _ => .none
theorem hMul_pr (x y : IQ) : hMul (prD x) (prD y) = prD (x.1 + y.1, x.2 * y.2) := rfl
theorem mulP_D : ∀ p r : List IQ, ((p.map prD).flatMap fun d => (r.map prD).map (hMul d)) = (mulP p r).map prD
  | [], r => rfl
  | x :: p, r => by
    rw [List.map_cons, List.flatMap_cons, mulP_D p r, mulP_cons, List.map_append, List.map_map, List.map_map]
    rfl
def RProd : DFn := fun ds q => ∃ p r, ds = [polyD p, polyD r] ∧ PolyOk p ∧ PolyOk r ∧ ∀ ys, Canon (mulP p r) ys → q (polyD ys)
theorem ok_prod (F : Fun K "product_of" "product_of" s_product_of f fd) (T : Blt mg) (C1 : CallD P w K mg base "check_both" 5 ["poly", "other"] (spD' Ta RBoth)) (C2 : CallD P w K mg base "gathered" 1 ["pairs"] (spD' Ta RGath)) : FnOk P w K mg base CX0 6 f fd ["poly", "other"] (spD' Ta RProd) := by
  obtain ⟨_, _, G_check_both, b_check_both, k_check_both, m_check_both⟩ := C1.ex
  obtain ⟨_, _, G_gathered, b_gathered, k_gathered, m_gathered⟩ := C2.ex
  refine fn_d (k := 5) kn F sc_product_of (fun ds q ⟨_, _, h, _⟩ => by rw [h]; rfl) (by decide) fun cdv A outer s H E hr => ⟨_, (dss_cons (ds_expr (dx_call G_check_both (hr.mono (by omega)) rfl m_check_both k_check_both b_check_both (da_cons (dx_var 0) (da_cons (dx_var 1) da_nil))))
    (dss_one (ds_ret (dx_call G_gathered (hr.mono (by omega)) rfl m_gathered k_gathered b_gathered (da_cons (dx_lc2 (own := [("one", 2), ("two", 3)]) (vs1 := [3]) rfl sc_product_of.nd (di_seq (dx_var 0)) (blkOk_by (N := ["poly", "other", "one", "two"]) (sc := defScope s_product_of) (by decide +kernel)) (by decide) (fun _ _ _ _ _ => (pg_name (i := 2) sc_product_of.nd rfl (by first | exact Or.inl rfl | exact Or.inr rfl))) (gs_n 2) (by decide) (fun _ _ _ _ _ => dts_nil) (fun _ _ _ _ _ => (di_seq (dx_var 1))) (fun _ _ _ _ _ => (pg_name (i := 3) sc_product_of.nd rfl (by first | exact Or.inl rfl | exact Or.inr rfl))) (gs_n 3) (by decide) (fun _ _ _ _ _ => dts_nil) (fun _ _ _ _ _ => (dx_tup (da_cons (dx_op op_add (opS_int _) (dx_ix ix_A opS_ix (dx_var 2) dx_int (fun _ _ => rfl)) (dx_ix ix_A opS_ix (dx_var 3) dx_int (fun _ _ => rfl))) (da_cons (dx_op op_mul (opS_intC _ _) (dx_ix ix_A opS_ix (dx_var 2) dx_int (fun _ _ => rfl)) (dx_ix ix_A opS_ix (dx_var 3) dx_int (fun _ _ => rfl))) da_nil))))) da_nil))))), fun ds q ⟨p, r, h, hp, hr', hq⟩ => ?_⟩
  subst h
  change rSeq _ _ _ [DV.d _, .d _, .no, .no]
  refine ⟨_, rfl, _, rfl, p, r, rfl, hp, hr', ?_⟩
  have h1 := hp.len
  have h2 := hr'.len
  have hsz : sizeLine = 16777216 := sizeLine_eq
  have e5 : p.length * r.length ≤ 5 * 5 := Nat.mul_le_mul h1 h2
  have ml : (mulP p r).length ≤ 25 := by rw [mulP_len]; exact e5
  simp only [rRet, rFn, raCons, raNil]
  refine rLc2_map (f := fun _ => r.map prD) (h := hMul) (p.map prD) 25 (by omega) (noOwn_of (by simp)) (by simp) (by simp) (fun d _ => noOwn_of (by simp [wipeE])) (by rw [mulP_D, List.length_map]; exact ml) (fun q' h => ⟨_, rfl, _, .inr rfl, h⟩) (fun d hd q' h => ?_) (fun d hd d' hd' q' h => ?_) ?_
  · simp [wipeE]
    exact ⟨_, .inr rfl, h⟩
  · obtain ⟨x, hx, rfl⟩ := List.mem_map.mp hd
    obtain ⟨y, hy, rfl⟩ := List.mem_map.mp hd'
    have c1 := hp.co x hx
    have cm : CMul x.2 y.2 := .inl ⟨by omega, by omega⟩
    rw [hMul_pr] at h
    simp [wipeE, prD, cm]
    exact ⟨by omega, h⟩
  · rw [mulP_D]
    exact ⟨_, rfl, by omega, hq⟩
def RConst : DFn := fun ds q => ∃ n : Nat, ds = [.int n] ∧ 1 ≤ n ∧ q (polyD [(0, (n : Int))])
theorem ok_const (F : Fun K "constant" "constant" s_constant f fd) (T : Blt mg) : FnOk P w K mg base CX0 1 f fd ["number"] (spD' Ta RConst) := by
  refine fn_d (k := 0) kn F sc_constant (fun ds q ⟨_, h, _⟩ => by rw [h]; rfl) (by decide) fun cdv A outer s H E hr => ⟨_, (dss_one (ds_ret (dx_if (dt_cmp op_gt (opS_bool _) (dx_var 0) dx_int (nomark _)) (dx_tup (da_cons (dx_tup (da_cons dx_int (da_cons (dx_var 0) da_nil))) da_nil)) (dx_tup da_nil)))), fun ds q ⟨n, h, hn, hq⟩ => ?_⟩
  subst h
  have hsz : sizeLine = 16777216 := sizeLine_eq
  change rRet _ _ [DV.d _]
  simp
  rw [if_pos (by omega)]
  simpa [polyD, hsz] using hq
/-- the least number of bits for so many things -/
def lgB (m : Nat) : Nat := Builtin.Int.intBits ((m : Int) - 1)
def RDig : DFn := fun ds q => ∃ m : Nat, ds = [.int m] ∧ q (.int (lgB m))
theorem ok_dig (F : Fun K "digits" "digits" s_digits f fd) (T : Blt mg) : FnOk P w K mg base CX0 1 f fd ["number"] (spD' Ta RDig) := by
  refine fn_d (k := 0) kn F sc_digits (fun ds q ⟨_, h, _⟩ => by rw [h]; rfl) (by decide) fun cdv A outer s H E hr => ⟨_, (dss_one (ds_ret (dx_bits (dx_op op_sub (opS_int _) (dx_var 0) dx_int)))), fun ds q ⟨m, h, hq⟩ => ?_⟩
  subst h
  change rRet _ _ [DV.d _]
  simp
  exact hq
/-- polynomials of rooms that are drawn here -/
structure Small (ps : List IQ) : Prop where
  len : ps.length ≤ 4
  co : ∀ p ∈ ps, p.2 ≤ 100
def DepthOf (a b : Nat) (ps ys : List IQ) : Prop := ∃ zs, Canon (mulP [(0, ((lgB a : Nat) : Int) + 1)] ps) zs ∧ Canon (zs ++ [(0, ((lgB (b + 2) : Nat) : Int))]) ys
theorem lgB_lt {m b : Nat} (hm : 1 ≤ m) : b < lgB m ↔ 2 ^ b < m := by
  unfold lgB Builtin.Int.intBits
  have e : ((m : Int) - 1).natAbs = m - 1 := by omega
  by_cases h : (m : Int) - 1 = 0
  · have : m = 1 := by omega
    subst this
    simp
  · rw [if_neg (by simpa using h), e, Nat.lt_succ_iff, Nat.le_log2 (by omega)]
    omega
theorem lgB_le {m n : Nat} (hm : 1 ≤ m) (h : m ≤ 2 ^ n) : lgB m ≤ n := by
  rcases Nat.lt_or_ge n (lgB m) with h1 | h1
  · have := (lgB_lt hm).mp h1
    omega
  · exact h1
theorem lgB_ge {m : Nat} (hm : 1 ≤ m) : m ≤ 2 ^ lgB m := by
  rcases Nat.lt_or_ge (2 ^ lgB m) m with h | h
  · have := (lgB_lt hm).mpr h
    omega
  · exact h
theorem acc_nd' : ∀ (L d : List IQ), ((d ++ L).map (·.1)).Nodup → L.foldl (fun d x => addK d x.1 x.2) d = d ++ L
  | [], d, _ => (List.append_nil d).symm
  | x :: L, d, h => by
    have e : addK d x.1 x.2 = d ++ [x] := by
      unfold addK
      rw [if_neg fun z => ?_]
      rw [List.map_append, List.nodup_append] at h
      exact h.2.2 _ (any_key.mp z) _ List.mem_cons_self rfl
    rw [List.foldl_cons, e, acc_nd' L (d ++ [x]) (by rw [List.append_assoc]; exact h), List.append_assoc]
    rfl
theorem acc_nd {L : List IQ} (h : (L.map (·.1)).Nodup) : accP L = L := acc_nd' L [] h
theorem canon_self {L ys : List IQ} (h : AscQ L) (c : Canon L ys) : ys = L := by
  refine asc_uniq c.2 h ?_
  have := c.1
  rw [acc_nd (asc_nodup h)] at this
  exact this
theorem polyOk_asc {ps : List IQ} (h : PolyOk ps) : AscQ ps := List.pairwise_map.mp h.asc
def scaleP (x : Int) (ps : List IQ) : List IQ := ps.map fun y => (y.1, x * y.2)
theorem mul_one_scale (x : Int) (ps : List IQ) : mulP [(0, x)] ps = scaleP x ps := by
  unfold mulP scaleP
  simp
theorem scale_ok {x : Int} {ps : List IQ} (h : PolyOk ps) (sm : Small ps) (h1 : 1 ≤ x) (h2 : x ≤ 6) : PolyOk (scaleP x ps) ∧ ∀ p ∈ scaleP x ps, p.2 ≤ 600 := by
  have co : ∀ p ∈ scaleP x ps, 1 ≤ p.2 ∧ p.2 ≤ 600 := fun p hp => by
    obtain ⟨y, hy, rfl⟩ := List.mem_map.mp hp
    have c1 := (h.co y hy).1
    have c2 := sm.co y hy
    have e1 : 1 * 1 ≤ x * y.2 := Int.mul_le_mul h1 c1 (by omega) (by omega)
    have e2 : x * y.2 ≤ 6 * 100 := Int.mul_le_mul h2 c2 (by omega) (by omega)
    exact ⟨by omega, by omega⟩
  refine ⟨⟨?_, fun p hp => ?_, fun p hp => ⟨(co p hp).1, by have := (co p hp).2; omega⟩, by unfold scaleP; rw [List.length_map]; exact h.len⟩, fun p hp => (co p hp).2⟩
  · unfold scaleP
    rw [List.map_map]
    exact h.asc
  · obtain ⟨y, hy, rfl⟩ := List.mem_map.mp hp
    exact h.exp y hy
theorem scale_canon {x : Int} {ps zs : List IQ} (h : PolyOk ps) (c : Canon (mulP [(0, x)] ps) zs) : zs = scaleP x ps := by
  rw [mul_one_scale] at c
  refine canon_self ?_ c
  unfold scaleP AscQ
  rw [List.pairwise_map]
  exact polyOk_asc h
theorem plus_ok {zs ys : List IQ} {b : Int} (h : PolyOk zs) (sm : ∀ p ∈ zs, p.2 ≤ 600) (hl : zs.length ≤ 4) (h1 : 1 ≤ b) (h2 : b ≤ 6) (c : Canon (zs ++ [(0, b)]) ys) : PolyOk ys := by
  have e : accP (zs ++ [(0, b)]) = addK zs 0 b := by rw [acc_snoc, acc_nd (asc_nodup (polyOk_asc h))]
  have pm := c.1
  rw [e] at pm
  have mem : ∀ p ∈ ys, p ∈ zs ∨ (p.1 = 0 ∧ 1 ≤ p.2 ∧ p.2 ≤ 606) := fun p hp => by
    have hp := pm.mem_iff.mp hp
    unfold addK at hp
    split at hp
    · obtain ⟨y, hy, rfl⟩ := List.mem_map.mp hp
      split
      · have := (h.co y hy).1
        have := sm y hy
        exact .inr ⟨rfl, by dsimp only; omega, by dsimp only; omega⟩
      · exact .inl hy
    · rcases List.mem_append.mp hp with q | q
      · exact .inl q
      · rw [List.mem_singleton.mp q]
        exact .inr ⟨rfl, by dsimp only; omega, by dsimp only; omega⟩
  refine ⟨List.pairwise_map.mpr c.2, fun p hp => ?_, fun p hp => ?_, ?_⟩
  · rcases mem p hp with q | q
    · exact h.exp p q
    · omega
  · rcases mem p hp with q | q
    · exact h.co p q
    · omega
  · rw [pm.length_eq]
    have := addK_len 0 b (asc_nodup (polyOk_asc h))
    omega
theorem depth_ok {a b : Nat} {ps ys : List IQ} (h : PolyOk ps) (sm : Small ps) (ha : lgB a ≤ 5) (hb : lgB (b + 2) ≤ 5) (hb1 : 1 ≤ lgB (b + 2)) (D : DepthOf a b ps ys) : PolyOk ys := by
  obtain ⟨zs, c1, c2⟩ := D
  have := scale_canon h c1
  subst this
  obtain ⟨s1, s2⟩ := scale_ok (x := ((lgB a : Nat) : Int) + 1) h sm (by omega) (by omega)
  exact plus_ok s1 s2 (by unfold scaleP; rw [List.length_map]; exact sm.len) (by omega) (by omega) c2
theorem depth_uniq {a b : Nat} {ps ys zs : List IQ} (h : DepthOf a b ps ys) (h' : DepthOf a b ps zs) : ys = zs := by
  obtain ⟨u, c1, c2⟩ := h
  obtain ⟨u', c1', c2'⟩ := h'
  have := canon_uniq (.refl _) c1 c1'
  subst this
  exact canon_uniq (.refl _) c2 c2'
theorem polyV_ev (n : Nat) : ∀ ps : List IQ, polyV ps n = evalP ps n
  | [] => rfl
  | p :: ps => by
    show p.2 * (n : Int) ^ p.1.toNat + polyV ps n = evalP (p :: ps) n
    unfold evalP
    rw [lin_cons, polyV_ev n ps]
    unfold evalP pw
    simp
theorem depth_val {a b : Nat} {ps ys : List IQ} (h : PolyOk ps) (D : DepthOf a b ps ys) (n : Nat) : polyV ys n = (((lgB a : Nat) : Int) + 1) * polyV ps n + ((lgB (b + 2) : Nat) : Int) := by
  obtain ⟨zs, c1, c2⟩ := D
  rw [polyV_ev, polyV_ev]
  have e1 : evalP ys n = evalP (zs ++ [(0, ((lgB (b + 2) : Nat) : Int))]) n := canon_lin _ c2
  have e2 : evalP zs n = evalP (mulP [(0, ((lgB a : Nat) : Int) + 1)] ps) n := canon_lin _ c1
  rw [e1]
  unfold evalP at *
  rw [lin_app, e2]
  have e3 := eval_mul (k := n) (p := [(0, ((lgB a : Nat) : Int) + 1)]) (q := ps) (fun x hx => by rw [List.mem_singleton.mp hx]; exact Int.le_refl _) (fun y hy => (h.exp y hy).1)
  unfold evalP at e3
  rw [e3]
  simp [lin, pw]
def RDepth : DFn := fun ds q => ∃ S R ps d, ds = [d] ∧ Mach S R ps d ∧ Small ps ∧ ∀ ys, DepthOf S.length R.length ps ys → q (polyD ys)
theorem ok_depth (F : Fun K "depth" "depth" s_depth f fd) (T : Blt mg) (C1 : CallD P w K mg base "check_machine" 7 ["machine"] (spD' Ta RChkM)) (C2 : CallD P w K mg base "sum_of" 6 ["poly", "other"] (spD' Ta RSum)) (C3 : CallD P w K mg base "product_of" 6 ["poly", "other"] (spD' Ta RProd)) (C4 : CallD P w K mg base "constant" 1 ["number"] (spD' Ta RConst)) (C5 : CallD P w K mg base "digits" 1 ["number"] (spD' Ta RDig)) : FnOk P w K mg base CX0 8 f fd ["machine"] (spD' Ta RDepth) := by
  obtain ⟨_, _, G_check_machine, b_check_machine, k_check_machine, m_check_machine⟩ := C1.ex
  obtain ⟨_, _, G_sum_of, b_sum_of, k_sum_of, m_sum_of⟩ := C2.ex
  obtain ⟨_, _, G_product_of, b_product_of, k_product_of, m_product_of⟩ := C3.ex
  obtain ⟨_, _, G_constant, b_constant, k_constant, m_constant⟩ := C4.ex
  obtain ⟨_, _, G_digits, b_digits, k_digits, m_digits⟩ := C5.ex
  refine fn_d (k := 7) kn F sc_depth (fun ds q ⟨_, _, _, _, h, _⟩ => by rw [h]; rfl) (by decide) fun cdv A outer s H E hr => ⟨_, (dss_cons (ds_expr (dx_call G_check_machine (hr.mono (by omega)) rfl m_check_machine k_check_machine b_check_machine (da_cons (dx_var 0) da_nil)))
    (dss_cons (ds_asg (ps_asg (dx_var 0) (pg_tup (n := 4) (by rfl) (pgs_cons (pg_name (i := 1) sc_depth.nd rfl (Or.inl rfl)) (pgs_cons (pg_name (i := 2) sc_depth.nd rfl (Or.inl rfl)) (pgs_cons (pg_name (i := 3) sc_depth.nd rfl (Or.inl rfl)) (pgs_cons (pg_name (i := 4) sc_depth.nd rfl (Or.inl rfl)) pgs_nil)))))) (gs_tup (gss_cons (gs_n 1) (gss_cons (gs_n 2) (gss_cons (gs_n 3) (gss_cons (gs_n 4) gss_nil))))))
    (dss_one (ds_ret (dx_call G_sum_of (hr.mono (by omega)) rfl m_sum_of k_sum_of b_sum_of (da_cons (dx_call G_product_of (hr.mono (by omega)) rfl m_product_of k_product_of b_product_of (da_cons (dx_call G_constant (hr.mono (by omega)) rfl m_constant k_constant b_constant (da_cons (dx_op op_add (opS_int _) (dx_call G_digits (hr.mono (by omega)) rfl m_digits k_digits b_digits (da_cons (dx_callB call_len callS_len (by rfl) T.len PySem.boot_len (da_cons (dx_var 2) da_nil)) da_nil)) dx_int) da_nil)) (da_cons (dx_var 4) da_nil))) (da_cons (dx_call G_constant (hr.mono (by omega)) rfl m_constant k_constant b_constant (da_cons (dx_call G_digits (hr.mono (by omega)) rfl m_digits k_digits b_digits (da_cons (dx_op op_add (opS_int _) (dx_callB call_len callS_len (by rfl) T.len PySem.boot_len (da_cons (dx_var 3) da_nil)) dx_int) da_nil)) da_nil)) da_nil))))))), fun ds q ⟨S, R, ps, d, h, M, sm, hq⟩ => ?_⟩
  subst h
  change rSeq _ _ _ [DV.d _, .no, .no, .no, .no]
  refine ⟨_, rfl, S, R, ps, d, rfl, M, ?_⟩
  have hsz : sizeLine = 16777216 := sizeLine_eq
  have a2 := M.s2
  have a26 := M.s26
  have b1 := M.r1
  have b24 := M.r24
  have po := M.po
  have sl := sm.len
  have lS : lgB S.length ≤ 5 := lgB_le (by omega) (by omega)
  have lR : lgB (R.length + 2) ≤ 5 := lgB_le (by omega) (by omega)
  have lR1 : 1 ≤ lgB (R.length + 2) := (lgB_lt (b := 0) (by omega)).mpr (by omega)
  have k1 : PolyOk [(0, ((lgB S.length : Nat) : Int) + 1)] := ⟨by simp, fun p hp => by rw [List.mem_singleton.mp hp]; exact ⟨by simp, by simp⟩, fun p hp => by rw [List.mem_singleton.mp hp]; constructor <;> (dsimp only; omega), by simp⟩
  have k2 : PolyOk [(0, ((lgB (R.length + 2) : Nat) : Int))] := ⟨by simp, fun p hp => by rw [List.mem_singleton.mp hp]; exact ⟨by simp, by simp⟩, fun p hp => by rw [List.mem_singleton.mp hp]; constructor <;> (dsimp only; omega), by simp⟩
  rw [M.e]
  refine ⟨_, rfl, _, rfl, rfl, _, _, rfl, by simp, _, _, rfl, by simp, _, _, rfl, by simp, _, _, rfl, by simp, rfl, ?_⟩
  simp only [List.set_cons_succ, List.set_cons_zero]
  have sc := scale_ok (x := ((lgB S.length : Nat) : Int) + 1) po sm (by omega) (by omega)
  simp [hsz, and_assoc]
  refine ⟨by omega, S.length, rfl, _, rfl, lgB S.length + 1, rfl, by omega, [(0, ((lgB S.length : Nat) : Int) + 1)], ps, rfl, k1, po, fun zs c1 => ⟨by omega, R.length + 2, rfl, lgB (R.length + 2), rfl, lR1, zs, [(0, ((lgB (R.length + 2) : Nat) : Int))], rfl, ?_, k2, fun ys c2 => hq ys ⟨zs, c1, c2⟩⟩⟩
  rw [scale_canon po c1]
  exact sc.1
end
end Zk

set_option maxHeartbeats 1000000
/-! H51: the law's own sums and products. -/
namespace Zk
open PySem PySem.Spec PyProof.Rows L2 GxR TL SX Pq
open L2.DX (itemsO itemsO_ok)
abbrev s_law_times : Stmt := top 41
theorem sc_law_times : FnScope ["one", "other", "found", "exponent", "coefficient", "more", "by"] ["one", "other"] (defScope s_law_times) := ⟨rfl, rfl, rfl, by decide +kernel, rfl, by decide +kernel, by decide +kernel⟩
abbrev s_law_plus : Stmt := top 42
theorem sc_law_plus : FnScope ["one", "other", "found", "exponent", "coefficient"] ["one", "other"] (defScope s_law_plus) := ⟨rfl, rfl, rfl, by decide +kernel, rfl, by decide +kernel, by decide +kernel⟩
abbrev s_law_lg : Stmt := top 43
theorem sc_law_lg : FnScope ["many", "bits"] ["many"] (defScope s_law_lg) := ⟨rfl, rfl, rfl, by decide +kernel, rfl, by decide +kernel, by decide +kernel⟩
/- ["one", "other", "found", "exponent", "coefficient", "more", "by"] ["one", "other", "found", "exponent", "coefficient"] -/
def PolyT (K : PySem.W.Frag) (H : Hp) (v : V) (p : List IQ) : Prop := ∃ a ts, v = .ref a ∧ SqT K H a ts ∧ PT H ts p
theorem PTf.pt {H0 H : Hp} {ts : List V} {ys : List IQ} (h : PTf H0 H ts ys) : PT H ts ys := Paired.mapP h fun _ _ ⟨t, a, _, b⟩ => ⟨t, a, b⟩
theorem PT.len' {H : Hp} {ts : List V} {es : List IQ} (h : PT H ts es) : ts.length = es.length := Paired.length h
theorem PT.get' {H : Hp} : ∀ {ts : List V} {p : List IQ} {i : Nat} {v : V}, PT H ts p → ts[i]? = some v → ∃ t x, v = .ref t ∧ p[i]? = some x ∧ H t = some (.tup [.int x.1, .int x.2])
  | _, _, _, _, .nil, e => by simp at e
  | _, _, 0, _, .cons ⟨t, e1, h⟩ _, e => by
    simp at e
    subst e
    exact ⟨t, _, e1, rfl, h⟩
  | _, _, i + 1, v, .cons _ r, e => by
    obtain ⟨t, x, a, b, c⟩ := PT.get' (i := i) (v := v) r (by simpa using e)
    exact ⟨t, x, a, by simpa using b, c⟩
theorem sqT_up {K : PySem.W.Frag} {H : Hp} {a d : Addr} {ts : List V} {o : HO} (h : SqT K H a ts) (hd : H d = none) : SqT K (upd H d o) a ts := by
  rcases h with (h | ⟨o', h⟩) | h
  · exact .inl (.inl (same_new hd _ _ _ h))
  · exact .inl (.inr ⟨o', same_new hd _ _ _ h⟩)
  · exact .inr h
theorem dI_get {d : List IQ} {H : Hp} {a : Addr} (h : H a = some (.dK (dI d))) (e : Int) : ∃ o : Option V, DGet H a (.int e) o ∧ o.getD (V.int 0) = V.int ((getK d e).getD 0) := by
  have g := DGet.k (k := Sum.inl e) h
  rw [valV_dI] at g
  exact ⟨_, g, by cases getK d e <;> rfl⟩
theorem mulP_snoc (l : List IQ) (x : IQ) (r : List IQ) : mulP (l ++ [x]) r = mulP l r ++ r.map fun y => (x.1 + y.1, x.2 * y.2) := by
  unfold mulP
  rw [List.flatMap_append]
  simp
section
variable {P : Program} {w : World} {K : PySem.W.Frag} {mg : Str → Option Value} {base : Heap} {f c pt : Addr} {fd : FuncData} {Ta : List Addr}
def spTimes (K : PySem.W.Frag) (Ta : List Addr) : Sp := fun vs H Q _ => ∃ v u p r, vs = [v, u] ∧ PolyT K H v p ∧ PolyT K H u r ∧ p.length ≤ 50 ∧ r.length ≤ 50 ∧ (∀ x ∈ p, -(2 ^ 64) < x.2 ∧ x.2 < 2 ^ 64) ∧ Tb Ta H ∧
  ∀ H' a ts ys, Sm H H' → Tb Ta H' → H a = none → PF H' a ts → PT H' ts ys → (∀ v ∈ ts, ∀ t, v = .ref t → H t = none) → Canon (mulP p r) ys → Q (.ref a) H'
theorem ok_times (F : Fun K "_law_times" "_law_times" s_law_times f fd) (T : Blt mg) : FnOk P w K mg base CX0 1 f fd ["one", "other"] (spTimes K Ta) := by
  refine F.ok sc_law_times (fun vs H Q E h => ?_) (fun cdv A outer s H vs Q E hr h => ?_)
  · obtain ⟨v, u, p, r, rfl, _⟩ := h
    rfl
  obtain ⟨v, u, p, r, rfl, ⟨a, ts, rfl, ha, ht⟩, ⟨b, us, rfl, hb, hu'⟩, lp, lr, co, tb, q⟩ := h
  have hu := hu_of hr
  refine ⟨_, pss_cons (ps_set (i := 2) sc_law_times.nd rfl (Or.inl rfl) pe_dnewK)
    (pss_cons (ps_for PassesOwn.never rfl (pi_tup (pv 0)) (pg_tup (by rfl) (pgs_cons (pg_name (i := 3) sc_law_times.nd rfl (Or.inl rfl)) (pgs_cons (pg_name (i := 4) sc_law_times.nd rfl (Or.inl rfl)) pgs_nil)))
      (pss_one (ps_for PassesOwn.never rfl (pi_tup (pv 1)) (pg_tup (by rfl) (pgs_cons (pg_name (i := 5) sc_law_times.nd rfl (Or.inl rfl)) (pgs_cons (pg_name (i := 6) sc_law_times.nd rfl (Or.inl rfl)) pgs_nil)))
        (pss_one (ps_dput hu (pv 2) (pe_op op_add (pv 3) (pv 5)) (pe_op op_add (pe_dget2 hu (pv 2) (pe_op op_add (pv 3) (pv 5)) pe_int ⟨rfl, rfl, rfl, rfl⟩) (pe_op op_mul (pv 4) (pv 6))) rfl)))))
    (pss_one (ps_ret (pe_callTy call_tuple_fz (by rfl) T.tuple (by decide +kernel) (pa_cons (pe_callB (cr_sortedIIf rfl) (by rfl) T.sorted (by decide +kernel) (pa_cons (pe_bm0 PySem.F.plainAttrs_dict PySem.F.slot_dict_items PySem.F.type_dict_items mt_itemsK (pv 2)) pa_nil)) pa_nil))))), ?_⟩
  intro d hd
  have hsz : sizeLine = 16777216 := sizeLine_eq
  have lt := PT.len' ht
  have lu := PT.len' hu'
  have e5 : p.length * r.length ≤ 50 * 50 := Nat.mul_le_mul lp lr
  have lacc : ∀ (i j : Nat) (x : IQ), i < p.length → j ≤ r.length → (accP (mulP (p.take i) r ++ (r.take j).map fun y => (x.1 + y.1, x.2 * y.2))).length ≤ 2550 := fun i j x hi hj => by
    refine Nat.le_trans (acc_len _) ?_
    rw [List.length_append, List.length_map, mulP_len, List.length_take, List.length_take]
    have : min i p.length * r.length ≤ p.length * r.length := Nat.mul_le_mul_right _ (by omega)
    omega
  refine ⟨_, rfl, a, rfl, ⟨_, sqT_up ha hd⟩, for_tup (K := K) (xs := ts) (fun i σ H' => (∃ v3 v4 v5 v6, σ = [some (.ref a), some (.ref b), some (.ref d), v3, v4, v5, v6]) ∧ H' = upd H d (.dK (dI (accP (mulP (p.take i) r))))) ⟨⟨_, _, _, _, rfl⟩, rfl⟩
    (fun i σ H' _ ⟨_, e⟩ => by rw [e]; exact sqT_up ha hd) ?_ ?_⟩
  · rintro i x σ H' hx ⟨⟨v3, v4, v5, v6, rfl⟩, rfl⟩
    obtain ⟨t, x, rfl, hx', hxt⟩ := PT.get' ht hx
    have hi : i < p.length := (List.getElem?_eq_some_iff.mp hx').1
    obtain ⟨co1, co2⟩ := co x (List.mem_of_getElem? hx')
    refine ⟨t, _, rfl, SqT.of ((upd_ne (ne_of_none hxt hd)).trans hxt), rfl, _, _, rfl, _, _, rfl, rfl, ?_⟩
    refine ⟨_, rfl, b, rfl, ⟨_, sqT_up hb hd⟩, for_tup (K := K) (xs := us) (fun j σ H' => (∃ v5 v6, σ = [some (.ref a), some (.ref b), some (.ref d), some (.int x.1), some (.int x.2), v5, v6]) ∧ H' = upd H d (.dK (dI (accP (mulP (p.take i) r ++ (r.take j).map fun y => (x.1 + y.1, x.2 * y.2)))))) ⟨⟨_, _, rfl⟩, by simp⟩
      (fun j σ H' _ ⟨_, e⟩ => by rw [e]; exact sqT_up hb hd) ?_ ?_⟩
    · rintro j y σ H' hy ⟨⟨v5, v6, rfl⟩, rfl⟩
      obtain ⟨t2, y, rfl, hy', hyt⟩ := PT.get' hu' hy
      have hj : j < r.length := (List.getElem?_eq_some_iff.mp hy').1
      refine ⟨t2, _, rfl, SqT.of ((upd_ne (ne_of_none hyt hd)).trans hyt), rfl, _, _, rfl, _, _, rfl, rfl, ?_⟩
      have len := lacc i j x hi (by omega)
      obtain ⟨o, g, eo⟩ := dI_get (H := upd H d (.dK (dI (accP (mulP (p.take i) r ++ (r.take j).map fun y => (x.1 + y.1, x.2 * y.2)))))) (a := d) upd_same (x.1 + y.1)
      have cm : CMul x.2 y.2 := .inl ⟨co1, co2⟩
      refine ⟨_, rfl, d, rfl, .inl ⟨_, .inl upd_same⟩, _, rfl, _, rfl, _, _, rfl, rfl, _, g, ?_⟩
      rw [eo]
      refine ⟨_, rfl, _, rfl, _, _, rfl, rfl, cm, ?_⟩
      refine ⟨_, _, rfl, rfl, ?_⟩
      refine ⟨_, rfl, _, rfl, _, rfl, _, _, rfl, rfl, d, _, rfl, DPut.k (k := Sum.inl (x.1 + y.1)) upd_same (by unfold dI; rw [List.length_map]; omega), ?_⟩
      refine ⟨⟨_, _, rfl⟩, ?_⟩
      rw [upd_upd, putK_dI, ← addK_set (acc_nodup _), List.take_add_one (l := r), hy']
      show upd H d (.dK (dI (addK _ (x.1 + y.1, x.2 * y.2).1 (x.1 + y.1, x.2 * y.2).2))) = _
      rw [← acc_snoc, List.map_append, ← List.append_assoc]
      rfl
    · rintro σ H' ⟨⟨v5, v6, rfl⟩, rfl⟩
      rw [List.take_of_length_le (Nat.le_of_eq lu.symm)]
      refine ⟨⟨_, _, _, _, rfl⟩, ?_⟩
      rw [List.take_add_one, hx']
      show _ = upd H d (.dK (dI (accP (mulP (p.take i ++ [x]) r))))
      rw [mulP_snoc]
  · rintro σ H' ⟨⟨v3, v4, v5, v6, rfl⟩, rfl⟩
    rw [List.take_of_length_le (Nat.le_of_eq lt.symm)]
    refine ⟨_, rfl, .inr (.inr (.inl ⟨rfl, .inl ⟨_, upd_same⟩⟩)), d, _, rfl, rfl, upd_same, fun v1 hv1 => ?_⟩
    have h1 : Same H (upd (upd H d (.dK (dI (accP (mulP p r))))) v1 (itemsO v1 d)) := (same_new hd _).trans (same_new hv1 _)
    refine ⟨v1, d, accP (mulP p r), rfl, upd_same, same_new hv1 _ _ _ upd_same, fun ys H' l us' hp hs sm hl hus ht' => ?_⟩
    refine ⟨l, us', rfl, SqL.of hus, fun b' its hb' => ?_⟩
    have s2 : Same H (upd H' b' (.frz { cls := .type "tuple", data := .seq its.toArray } (.tup us'))) := (h1.trans sm).trans (same_new hb' _)
    have nn : ∀ t, (upd (upd H d (.dK (dI (accP (mulP p r))))) v1 (itemsO v1 d)) t = none → H t = none := fun t h => by
      cases e : H t with
      | none => rfl
      | some o => rw [h1 _ _ e] at h; cases h
    refine q _ b' us' ys (Same.sm s2) (tb.same s2) (by
      cases e : H b' with
      | none => rfl
      | some o => rw [(h1.trans sm) _ _ e] at hb'; cases hb') ⟨its, upd_same⟩ (PT.sm (Same.sm (same_new hb' _)) ht'.pt) ?_ ⟨hp, lex_asc (acc_nodup _) hp hs⟩
    clear hs hp
    intro v hv t e
    subst e
    have all : ∀ (ts : List V) (ys : List IP), PTf (upd (upd H d (.dK (dI (accP (mulP p r))))) v1 (itemsO v1 d)) H' ts ys → .ref t ∈ ts → H t = none := fun ts ys h => by
      induction h with
      | nil => exact fun h => nomatch h
      | cons h _ ih =>
        intro hm
        rcases List.mem_cons.mp hm with e | hm
        · obtain ⟨t', e', n, _⟩ := h
          rw [e'] at e
          cases e
          exact nn _ n
        · exact ih hm
    exact all _ _ ht' hv
/-- a list of pairs and further ones -/
def foldD (p r : List IQ) : List IQ := r.foldl (fun d x => addK d x.1 x.2) p
theorem foldD_acc {p : List IQ} (h : (p.map (·.1)).Nodup) (r : List IQ) : foldD p r = accP (p ++ r) := by
  unfold foldD accP
  rw [List.foldl_append]
  have := acc_nd h
  unfold accP at this
  rw [this]
theorem pt_pairs {K : PySem.W.Frag} {H : Hp} : ∀ {ts : List V} {p : List IQ}, PT H ts p → ∃ as : List Addr, ts = as.map V.ref ∧ Paired (fun a (kv : Key × V) => SqT K H a [kV kv.1, kv.2]) as (dI p)
  | _, _, .nil => ⟨[], rfl, .nil⟩
  | _, _, .cons (b := e) ⟨t, e1, h⟩ r => by
    obtain ⟨as, e2, q⟩ := pt_pairs (K := K) r
    exact ⟨t :: as, by rw [e1, e2]; rfl, .cons (SqT.of h) q⟩
theorem merge_dI : ∀ (p d : List IQ), ((d ++ p).map (·.1)).Nodup → mergeK (dI d) (dI p) = dI (d ++ p)
  | [], d, _ => by rw [List.append_nil]; rfl
  | x :: p, d, h => by
    have hx : ¬ x.1 ∈ d.map (·.1) := fun z => by
      rw [List.map_append, List.nodup_append] at h
      exact h.2.2 _ z _ List.mem_cons_self rfl
    have e : putK (dI d) (.inl x.1) (.int x.2) = dI (d ++ [x]) := by
      rw [putK_dI]
      unfold setK
      rw [if_neg fun z => hx (any_key.mp z)]
    show mergeK (putK (dI d) (.inl x.1) (.int x.2)) (dI p) = _
    rw [e, merge_dI p (d ++ [x]) (by rw [List.append_assoc]; exact h), List.append_assoc]
    rfl
def spPlus (K : PySem.W.Frag) (Ta : List Addr) : Sp := fun vs H Q _ => ∃ a u ts p r, vs = [.ref a, u] ∧ PF H a ts ∧ PT H ts p ∧ (p.map (·.1)).Nodup ∧ PolyT K H u r ∧ p.length ≤ 50 ∧ r.length ≤ 50 ∧ Tb Ta H ∧
  ∀ H' a ts ys, Sm H H' → Tb Ta H' → H a = none → PF H' a ts → PT H' ts ys → (∀ v ∈ ts, ∀ t, v = .ref t → H t = none) → Canon (p ++ r) ys → Q (.ref a) H'
theorem ok_plus (F : Fun K "_law_plus" "_law_plus" s_law_plus f fd) (T : Blt mg) : FnOk P w K mg base CX0 1 f fd ["one", "other"] (spPlus K Ta) := by
  refine F.ok sc_law_plus (fun vs H Q E h => ?_) (fun cdv A outer s H vs Q E hr h => ?_)
  · obtain ⟨v, u, ts, p, r, rfl, _⟩ := h
    rfl
  obtain ⟨a, u, ts, p, r, rfl, ha, ht, nd, ⟨b, us, rfl, hb, hu'⟩, lp, lr, tb, q⟩ := h
  have hu := hu_of hr
  refine ⟨_, pss_cons (ps_set (i := 2) sc_law_plus.nd rfl (Or.inl rfl) (pe_callTy (call_dictF rfl) (by rfl) T.dict (by decide +kernel) (pa_cons (pv 0) pa_nil)))
    (pss_cons (ps_for PassesOwn.never rfl (pi_tup (pv 1)) (pg_tup (by rfl) (pgs_cons (pg_name (i := 3) sc_law_plus.nd rfl (Or.inl rfl)) (pgs_cons (pg_name (i := 4) sc_law_plus.nd rfl (Or.inl rfl)) pgs_nil)))
      (pss_one (ps_dput hu (pv 2) (pv 3) (pe_op op_add (pe_dget2 hu (pv 2) (pv 3) pe_int ⟨rfl, rfl, rfl, rfl⟩) (pv 4)) rfl)))
    (pss_one (ps_ret (pe_callTy call_tuple_fz (by rfl) T.tuple (by decide +kernel) (pa_cons (pe_callB (cr_sortedIIf rfl) (by rfl) T.sorted (by decide +kernel) (pa_cons (pe_bm0 PySem.F.plainAttrs_dict PySem.F.slot_dict_items PySem.F.type_dict_items mt_itemsK (pv 2)) pa_nil)) pa_nil))))), ?_⟩
  have hsz : sizeLine = 16777216 := sizeLine_eq
  have lt := PT.len' ht
  have lu := PT.len' hu'
  obtain ⟨as, rfl, pq⟩ := pt_pairs (K := K) ht
  refine ⟨_, rfl, a, as, dI p, rfl, ha, pq, fun d hd => ?_⟩
  rw [show mergeK [] (dI p) = dI p from merge_dI p [] nd]
  have lacc : ∀ j : Nat, (foldD p (r.take j)).length ≤ 100 := fun j => by
    rw [foldD_acc nd]
    refine Nat.le_trans (acc_len _) ?_
    rw [List.length_append, List.length_take]
    omega
  have ndj : ∀ j : Nat, ((foldD p (r.take j)).map (·.1)).Nodup := fun j => by
    rw [foldD_acc nd]
    exact acc_nodup _
  refine ⟨_, rfl, b, rfl, ⟨_, sqT_up hb hd⟩, for_tup (K := K) (xs := us) (fun i σ H' => (∃ v3 v4, σ = [some (.ref a), some (.ref b), some (.ref d), v3, v4]) ∧ H' = upd H d (.dK (dI (foldD p (r.take i))))) ⟨⟨_, _, rfl⟩, rfl⟩
    (fun i σ H' _ ⟨_, e⟩ => by rw [e]; exact sqT_up hb hd) ?_ ?_⟩
  · rintro j y σ H' hy ⟨⟨v3, v4, rfl⟩, rfl⟩
    obtain ⟨t2, y, rfl, hy', hyt⟩ := PT.get' hu' hy
    refine ⟨t2, _, rfl, SqT.of ((upd_ne (ne_of_none hyt hd)).trans hyt), rfl, _, _, rfl, _, _, rfl, rfl, ?_⟩
    have len := lacc j
    obtain ⟨o, g, eo⟩ := dI_get (H := upd H d (.dK (dI (foldD p (r.take j))))) (a := d) upd_same y.1
    refine ⟨_, rfl, d, rfl, .inl ⟨_, .inl upd_same⟩, _, rfl, _, g, ?_⟩
    rw [eo]
    refine ⟨_, rfl, _, _, rfl, rfl, ?_⟩
    refine ⟨_, rfl, _, rfl, d, _, rfl, DPut.k (k := Sum.inl y.1) upd_same (by unfold dI; rw [List.length_map]; omega), ?_⟩
    refine ⟨⟨_, _, rfl⟩, ?_⟩
    rw [upd_upd, putK_dI, ← addK_set (ndj j), List.take_add_one, hy']
    show _ = upd H d (.dK (dI (foldD p (r.take j ++ [y]))))
    unfold foldD
    rw [List.foldl_append]
    rfl
  · rintro σ H' ⟨⟨v3, v4, rfl⟩, rfl⟩
    rw [List.take_of_length_le (Nat.le_of_eq lu.symm)]
    have ndr : ((foldD p r).map (·.1)).Nodup := by rw [foldD_acc nd]; exact acc_nodup _
    refine ⟨_, rfl, .inr (.inr (.inl ⟨rfl, .inl ⟨_, upd_same⟩⟩)), d, _, rfl, rfl, upd_same, fun v1 hv1 => ?_⟩
    have h1 : Same H (upd (upd H d (.dK (dI (foldD p r)))) v1 (itemsO v1 d)) := (same_new hd _).trans (same_new hv1 _)
    refine ⟨v1, d, foldD p r, rfl, upd_same, same_new hv1 _ _ _ upd_same, fun ys H' l us' hp hs sm hl hus ht' => ?_⟩
    refine ⟨l, us', rfl, SqL.of hus, fun b' its hb' => ?_⟩
    have s2 : Same H (upd H' b' (.frz { cls := .type "tuple", data := .seq its.toArray } (.tup us'))) := (h1.trans sm).trans (same_new hb' _)
    have nn : ∀ t, (upd (upd H d (.dK (dI (foldD p r)))) v1 (itemsO v1 d)) t = none → H t = none := fun t h => by
      cases e : H t with
      | none => rfl
      | some o => rw [h1 _ _ e] at h; cases h
    refine q _ b' us' ys (Same.sm s2) (tb.same s2) (by
      cases e : H b' with
      | none => rfl
      | some o => rw [(h1.trans sm) _ _ e] at hb'; cases hb') ⟨its, upd_same⟩ (PT.sm (Same.sm (same_new hb' _)) ht'.pt) ?_ ⟨by rw [← foldD_acc nd]; exact hp, lex_asc ndr hp hs⟩
    clear hs hp
    intro v hv t e
    subst e
    have all : ∀ (ts : List V) (ys : List IP), PTf (upd (upd H d (.dK (dI (foldD p r)))) v1 (itemsO v1 d)) H' ts ys → .ref t ∈ ts → H t = none := fun ts ys h => by
      induction h with
      | nil => exact fun h => nomatch h
      | cons h _ ih =>
        intro hm
        rcases List.mem_cons.mp hm with e | hm
        · obtain ⟨t', e', n, _⟩ := h
          rw [e'] at e
          cases e
          exact nn _ n
        · exact ih hm
    exact all _ _ ht' hv
def RLg : DFn := fun ds q => ∃ m : Nat, ds = [.int m] ∧ 1 ≤ m ∧ m ≤ 1000 ∧ q (.int (lgB m))
theorem ok_lg (F : Fun K "_law_lg" "_law_lg" s_law_lg f fd) (T : Blt mg) : FnOk P w K mg base CX0 1 f fd ["many"] (spD' Ta RLg) := by
  refine fn_d (k := 0) kn F sc_law_lg (fun ds q ⟨_, h, _⟩ => by rw [h]; rfl) (by decide) fun cdv A outer s H E hr => ⟨_, (dss_cons (ds_of (ps_set (i := 1) sc_law_lg.nd rfl (Or.inl rfl) dx_int) (fun _ _ _ h => h))
    (dss_cons (ds_while PassesOwn.never (dt_cmp op_lt (opS_bool _) (dx_op op_shlW (opS_intC _ _) dx_int (dx_var 1)) (dx_var 0) (nomark _)) (dss_one (ds_of (ps_set (i := 1) sc_law_lg.nd rfl (Or.inl rfl) (dx_op op_add (opS_int _) (dx_var 1) dx_int)) (fun _ _ _ h => h))))
    (dss_one (ds_ret (dx_var 1))))), fun ds q ⟨m, h, h1, h2, hq⟩ => ?_⟩
  subst h
  have l10 : lgB m ≤ 10 := lgB_le h1 (by omega)
  change rSeq _ _ _ [DV.d _, .no]
  refine seq_set1 (.int 0) (fun q' h => h) (by simp) ?_
  simp only [List.set_cons_succ, List.set_cons_zero]
  refine ⟨fun l E => ∃ b : Nat, l = lgB m - b ∧ b ≤ lgB m ∧ E = [.d (.int m), .d (.int b)], ⟨lgB m, 0, by omega, by omega, rfl⟩, ?_⟩
  rintro l E1 ⟨b, rfl, hb, rfl⟩
  have cs : CShl 1 (b : Int) := shl_ok (n := 1) (by decide) (by omega)
  have e : (1 : Int) * 2 ^ (b : Int).toNat = ((2 ^ b : Nat) : Int) := by
    rw [Int.one_mul, Int.toNat_natCast]
    simp
  simp [cs]
  have e2 : ((2 : Int) ^ b < (m : Int)) ↔ b < lgB m := by
    rw [lgB_lt h1, ← Int.ofNat_lt]
    simp
  by_cases hb2 : b < lgB m
  · rw [if_pos (e2.mpr hb2)]
    exact ⟨lgB m - (b + 1), by omega, b + 1, rfl, by omega, by omega⟩
  · rw [if_neg (fun z => hb2 (e2.mp z))]
    have : b = lgB m := by omega
    rw [this]
    exact hq
end
end Zk

set_option maxHeartbeats 1000000
/-! H52: the law's own depths and numbers of choices. -/
namespace Zk
open PySem PySem.Spec PyProof.Rows L2 GxR TL SX Pq
abbrev s_law_depth : Stmt := top 44
theorem sc_law_depth : FnScope ["machine", "kind", "signs", "rules", "room"] ["machine"] (defScope s_law_depth) := ⟨rfl, rfl, rfl, by decide +kernel, rfl, by decide +kernel, by decide +kernel⟩
abbrev s_law_many : Stmt := top 45
theorem sc_law_many : FnScope ["machine", "t", "one"] ["machine"] (defScope s_law_many) := ⟨rfl, rfl, rfl, by decide +kernel, rfl, by decide +kernel, by decide +kernel⟩
/- ["machine", "kind", "signs", "rules", "room"] ["machine", "t", "one"] -/
theorem pt_of_sd {M : Hp} : ∀ {ts : List V} {ps : List IQ}, SdL M ts (ps.map prD) → PT M ts ps
  | _, [], .nil => .nil
  | _, p :: ps, .cons h t => by
    obtain ⟨a, vs, rfl, ha, sv⟩ := sd_tup h
    cases sv with
    | cons h1 t1 => cases t1 with
      | cons h2 t2 =>
        cases t2
        cases h1
        cases h2
        exact .cons ⟨a, rfl, ha⟩ (pt_of_sd t)
theorem mach_at {S : Str} {R : List PyData} {ps : List IQ} {d : PyData} {v : V} {M' : Hp} (h : Sd M' v d) (M : Mach S R ps d) : ∃ a b c ws ts, v = .ref a ∧ M' a = some (.tup [.str "machine", .str S, .ref b, .ref c]) ∧ M' b = some (.tup ws) ∧ ws.length = R.length ∧ M' c = some (.tup ts) ∧ PT M' ts ps := by
  rw [M.e] at h
  obtain ⟨a, vs, rfl, ha, sv⟩ := sd_tup h
  cases sv with
  | cons h1 t1 => cases t1 with
    | cons h2 t2 => cases t2 with
      | cons h3 t3 => cases t3 with
        | cons h4 t4 =>
          cases t4
          obtain rfl := sd_str h1
          obtain rfl := sd_str h2
          obtain ⟨b, ws, rfl, hb, sb⟩ := sd_tup h3
          obtain ⟨c, ts, rfl, hc, st⟩ := sd_tup h4
          exact ⟨a, b, c, ws, ts, rfl, ha, hb, sb.len, hc, pt_of_sd st⟩
section
variable {P : Program} {w : World} {K : PySem.W.Frag} {mg : Str → Option Value} {base : Heap} {f c pt : Addr} {fd : FuncData} {Ta : List Addr}
def RLDepth : DFnF := fun ds q => ∃ S R ps d, ds = [d] ∧ Mach S R ps d ∧ Small ps ∧ ∀ ys, DepthOf S.length R.length ps ys → q ys
/-- a polynomial of one number -/
theorem one_at {K : PySem.W.Frag} {H : Hp} {p1 p2 : Addr} {x : Int} (h1 : H p1 = some (.tup [.int 0, .int x])) (h2 : H p2 = some (.tup [.ref p1])) : PolyT K H (.ref p2) [(0, x)] := ⟨p2, _, rfl, SqT.of h2, .cons ⟨p1, rfl, h1⟩ .nil⟩
theorem disp_one {K : PySem.W.Frag} {H1 : Hp} {p1 p2 : Addr} {x : Int} (hp1 : H1 p1 = none) (hp2 : upd H1 p1 (.tup [.int 0, .int x]) p2 = none) : Same H1 (upd (upd H1 p1 (.tup [.int 0, .int x])) p2 (.tup [.ref p1])) ∧ PolyT K (upd (upd H1 p1 (.tup [.int 0, .int x])) p2 (.tup [.ref p1])) (.ref p2) [(0, x)] := by
  have e21 : p1 ≠ p2 := ne_of_none upd_same hp2
  exact ⟨(same_new hp1 _).trans (same_new hp2 _), one_at ((upd_ne e21).trans upd_same) upd_same⟩
theorem ok_ldepth (F : Fun K "_law_depth" "_law_depth" s_law_depth f fd) (T : Blt mg) (C1 : CallD P w K mg base "_law_lg" 1 ["many"] (spD' Ta RLg)) (C2 : CallD P w K mg base "_law_times" 1 ["one", "other"] (spTimes K Ta)) (C3 : CallD P w K mg base "_law_plus" 1 ["one", "other"] (spPlus K Ta)) : FnOk P w K mg base CX0 2 f fd ["machine"] (spF Ta RLDepth) := by
  obtain ⟨_, _, G1, b1, k1, m1⟩ := C1.ex
  obtain ⟨_, _, G2, b2, k2, m2⟩ := C2.ex
  obtain ⟨_, _, G3, b3, k3, m3⟩ := C3.ex
  refine F.ok sc_law_depth (fun vs H Q E h => ?_) (fun cdv A outer s H vs Q E hr h => ?_)
  · obtain ⟨Z, ds, q, hZ, sds, tb, ⟨S, R, ps, d, rfl, M, sm, hq⟩, k⟩ := h
    exact sds.len
  obtain ⟨Z, ds, q, hZ, sds, tb, ⟨S, R, ps, d, rfl, M, sm, hq⟩, kk⟩ := h
  obtain ⟨v, rfl, sv⟩ := sd1 sds
  obtain ⟨a, b, c, ws, ts, rfl, ha, hb, lw, hc, ht⟩ := mach_at sv M
  have ha := (msk_some.mp ha).2
  have hb := (msk_some.mp hb).2
  have hc := (msk_some.mp hc).2
  have ht : PT H ts ps := PT.sm msk_sm ht
  refine ⟨_, pss_cons (ps_asg (pv 0) (pg_tup (n := 4) (by rfl) (pgs_cons (pg_name (i := 1) sc_law_depth.nd rfl (Or.inl rfl)) (pgs_cons (pg_name (i := 2) sc_law_depth.nd rfl (Or.inl rfl)) (pgs_cons (pg_name (i := 3) sc_law_depth.nd rfl (Or.inl rfl)) (pgs_cons (pg_name (i := 4) sc_law_depth.nd rfl (Or.inl rfl)) pgs_nil))))))
    (pss_one (ps_ret (pe_call G3 hr rfl m3 k3 b3 .nil pass0 (pa_cons (pe_call G2 hr rfl m2 k2 b2 .nil pass0 (pa_cons (pe_tup (pa_cons (pe_tup (pa_cons pe_int (pa_cons (pe_op op_add (pe_call G1 hr rfl m1 k1 b1 .nil pass0 (pa_cons (pe_callB call_len (by rfl) T.len PySem.boot_len (pa_cons (pv 2) pa_nil)) pa_nil)) pe_int) pa_nil))) pa_nil)) (pa_cons (pv 4) pa_nil)))
      (pa_cons (pe_tup (pa_cons (pe_tup (pa_cons pe_int (pa_cons (pe_call G1 hr rfl m1 k1 b1 .nil pass0 (pa_cons (pe_op op_add (pe_callB call_len (by rfl) T.len PySem.boot_len (pa_cons (pv 3) pa_nil)) pe_int) pa_nil)) pa_nil))) pa_nil)) pa_nil))))), ?_⟩
  have hsz : sizeLine = 16777216 := sizeLine_eq
  have a2 := M.s2
  have a26 := M.s26
  have r1 := M.r1
  have r24 := M.r24
  have po := M.po
  have sl := sm.len
  refine ⟨_, rfl, a, _, rfl, SqT.of ha, rfl, _, _, rfl, _, _, rfl, _, _, rfl, _, _, rfl, rfl, ?_⟩
  refine ⟨_, rfl, _, S.length, rfl, ⟨by omega, rfl⟩, ?_⟩
  refine ⟨fun _ => False, [.int S.length], _, (fun b h => h.elim), .cons (.int _) .nil, tb, ⟨S.length, rfl, by omega, by omega, rfl⟩, ?_⟩
  rintro _ v1 H1 s1 t1 sv1 rfl
  obtain rfl := sd_int sv1
  refine ⟨_, _, rfl, rfl, ?_⟩
  refine ⟨by show 2 ≤ sizeLine; omega, fun p1 hp1 => ?_⟩
  refine ⟨by show 1 ≤ sizeLine; omega, fun p2 hp2 => ?_⟩
  refine ⟨_, rfl, ?_⟩
  have lS : lgB S.length ≤ 5 := lgB_le (by omega) (by omega)
  obtain ⟨sD, pD⟩ := disp_one (K := K) hp1 hp2
  generalize (upd (upd H1 p1 (.tup [.int 0, .int (((lgB S.length : Nat) : Int) + 1)])) p2 (.tup [.ref p1])) = HA at sD pD ⊢
  have sA := s1.trans (Same.sm sD)
  have tA := t1.same sD
  have nt : ∀ {b : Addr} {xs : List V} {H' : Hp}, H b = some (.tup xs) → Sm H H' → H' b = some (.tup xs) := fun e s => s _ _ e (fun _ z => nomatch z)
  refine ⟨_, _, [(0, ((lgB S.length : Nat) : Int) + 1)], ps, rfl, pD, ⟨c, ts, rfl, SqT.of (nt hc sA), PT.sm sA ht⟩, by simp, by omega, (fun x hx => by rw [List.mem_singleton.mp hx]; constructor <;> (dsimp only; omega)), tA, fun H2 a2 ts2 zs s2 t2 n2 pf2 pt2 fr2 c2 => ?_⟩
  have sB := sA.trans s2
  refine ⟨_, rfl, _, R.length, rfl, .inr ⟨ws, SqT.of (nt hb sB), by rw [lw]⟩, ?_⟩
  refine ⟨_, _, rfl, rfl, ?_⟩
  refine ⟨fun _ => False, [.int (R.length + 2)], _, (fun b h => h.elim), .cons (.int _) .nil, t2, ⟨R.length + 2, rfl, by omega, by omega, rfl⟩, ?_⟩
  rintro _ v3 H3 s3 t3 sv3 rfl
  obtain rfl := sd_int sv3
  refine ⟨by show 2 ≤ sizeLine; omega, fun p3 hp3 => ?_⟩
  refine ⟨by show 1 ≤ sizeLine; omega, fun p4 hp4 => ?_⟩
  obtain ⟨sE, pE⟩ := disp_one (K := K) hp3 hp4
  generalize (upd (upd H3 p3 (.tup [.int 0, .int ((lgB (R.length + 2) : Nat) : Int)])) p4 (.tup [.ref p3])) = HE at sE pE ⊢
  have sF := s3.trans (Same.sm sE)
  have tF := t3.same sE
  have lz : zs.length ≤ 4 := by
    have := canon_len c2
    rw [mulP_len] at this
    simp at this
    omega
  obtain ⟨its, pf2⟩ := pf2
  refine ⟨a2, _, ts2, zs, [(0, ((lgB (R.length + 2) : Nat) : Int))], rfl, ⟨its, sF _ _ pf2 (fun _ z => nomatch z)⟩, PT.sm sF pt2, asc_nodup c2.2, pE, by omega, by simp, tF, fun H4 a4 ts4 ys s4 t4 n4 pf4 pt4 fr4 c4 => ?_⟩
  have sG := sB.trans sF
  exact kk H4 a4 ts4 ys (sG.trans s4) t4 ((NewA.of n4).sm sG) pf4 pt4 (fun v hv t e => (NewA.of (fr4 v hv t e)).sm sG) (hq ys ⟨zs, c2, c4⟩)
theorem plus_mem {zs ys : List IQ} {b : Int} (nd : (zs.map (·.1)).Nodup) (c : Canon (zs ++ [(0, b)]) ys) : ∀ p ∈ ys, p ∈ zs ∨ p = (0, b) ∨ ∃ y ∈ zs, p = (0, y.2 + b) := fun p hp => by
  have e : accP (zs ++ [(0, b)]) = addK zs 0 b := by rw [acc_snoc, acc_nd nd]
  have pm := c.1
  rw [e] at pm
  have hp := pm.mem_iff.mp hp
  unfold addK at hp
  split at hp
  · obtain ⟨y, hy, rfl⟩ := List.mem_map.mp hp
    split
    · exact .inr (.inr ⟨y, hy, rfl⟩)
    · exact .inl hy
  · rcases List.mem_append.mp hp with q | q
    · exact .inl q
    · exact .inr (.inl (List.mem_singleton.mp q))
/-- exponents between 0 and m -/
def Exps (m : Int) (ps : List IQ) : Prop := ∀ p ∈ ps, 0 ≤ p.1 ∧ p.1 ≤ m
theorem exps_canon {m : Int} {L ys : List IQ} (h : Exps m L) (c : Canon L ys) : Exps m ys := fun x hx => canon_all (p := fun x => 0 ≤ x.1 ∧ x.1 ≤ m) (fun _ _ _ h _ => h) c h x hx
theorem exps_app {m : Int} {a b : List IQ} (h : Exps m a) (h' : Exps m b) : Exps m (a ++ b) := fun p hp => (List.mem_append.mp hp).elim (h p) (h' p)
theorem exps_mul {m n : Int} {a b : List IQ} (h : Exps m a) (h' : Exps n b) : Exps (m + n) (mulP a b) := fun p hp => by
  unfold mulP at hp
  obtain ⟨x, hx, hp⟩ := List.mem_flatMap.mp hp
  obtain ⟨y, hy, rfl⟩ := List.mem_map.mp hp
  have := h x hx
  have := h' y hy
  exact ⟨by dsimp only; omega, by dsimp only; omega⟩
theorem exps_one {x m : Int} (h : 0 ≤ m) : Exps m [(0, x)] := fun p hp => by rw [List.mem_singleton.mp hp]; exact ⟨by simp, h⟩
def RLMany : DFnF := fun ds q => ∃ S R ps d, ds = [d] ∧ Mach S R ps d ∧ Small ps ∧ ∀ ys, Exps 8 ys → ys.length ≤ 100 → q ys
theorem ok_lmany (F : Fun K "_law_many" "_law_many" s_law_many f fd) (T : Blt mg) (C1 : CallD P w K mg base "_law_depth" 2 ["machine"] (spF Ta RLDepth)) (C2 : CallD P w K mg base "_law_times" 1 ["one", "other"] (spTimes K Ta)) (C3 : CallD P w K mg base "_law_plus" 1 ["one", "other"] (spPlus K Ta)) : FnOk P w K mg base CX0 3 f fd ["machine"] (spF Ta RLMany) := by
  obtain ⟨_, _, G1, b1, k1, m1⟩ := C1.ex
  obtain ⟨_, _, G2, b2, k2, m2⟩ := C2.ex
  obtain ⟨_, _, G3, b3, k3, m3⟩ := C3.ex
  refine F.ok sc_law_many (fun vs H Q E h => ?_) (fun cdv A outer s H vs Q E hr h => ?_)
  · obtain ⟨Z, ds, q, hZ, sds, tb, ⟨S, R, ps, d, rfl, M, sm, hq⟩, k⟩ := h
    exact sds.len
  obtain ⟨Z, ds, q, hZ, sds, tb, ⟨S, R, ps, d, rfl, M, sm, hq⟩, kk⟩ := h
  obtain ⟨v, rfl, sv⟩ := sd1 sds
  have sv0 := sv
  obtain ⟨a, b, c, ws, ts, rfl, ha, hb, lw, hc, ht⟩ := mach_at sv M
  have ha := (msk_some.mp ha).2
  have hb := (msk_some.mp hb).2
  have hc := (msk_some.mp hc).2
  have ht : PT H ts ps := PT.sm msk_sm ht
  have hr1 := hr.mono (show 1 ≤ 2 by omega)
  refine ⟨_, pss_cons (ps_par (i := 1) (j := 2) rfl sc_law_many.nd rfl rfl (by decide) rfl rfl (pa_cons (pe_call G1 hr rfl m1 k1 b1 .nil pass0 (pa_cons (pv 0) pa_nil)) (pa_cons (pe_tup (pa_cons (pe_tup (pa_cons pe_int (pa_cons pe_int pa_nil))) pa_nil)) pa_nil)) (by rfl))
    (pss_one (ps_ret (pe_call G3 hr1 rfl m3 k3 b3 .nil pass0 (pa_cons (pe_call G2 hr1 rfl m2 k2 b2 .nil pass0 (pa_cons (pe_call G3 hr1 rfl m3 k3 b3 .nil pass0 (pa_cons (pv 1) (pa_cons (pv 2) pa_nil)))
      (pa_cons (pe_call G3 hr1 rfl m3 k3 b3 .nil pass0 (pa_cons (pe_call G2 hr1 rfl m2 k2 b2 .nil pass0 (pa_cons (pe_tup (pa_cons (pe_tup (pa_cons pe_int (pa_cons pe_int pa_nil))) pa_nil)) (pa_cons (pe_ix (r := rIxT K) ix_tup (pv 0) pe_int (fun _ _ => rfl)) pa_nil))) (pa_cons (pv 2) pa_nil))) pa_nil))) (pa_cons (pv 1) pa_nil))))), ?_⟩
  have hsz : sizeLine = 16777216 := sizeLine_eq
  have a2 := M.s2
  have a26 := M.s26
  have r1 := M.r1
  have r24 := M.r24
  have po := M.po
  have sl := sm.len
  have lS : lgB S.length ≤ 5 := lgB_le (by omega) (by omega)
  have lR : lgB (R.length + 2) ≤ 5 := lgB_le (by omega) (by omega)
  have lR1 : 1 ≤ lgB (R.length + 2) := (lgB_lt (b := 0) (by omega)).mpr (by omega)
  have nt : ∀ {b : Addr} {xs : List V} {H' : Hp}, H b = some (.tup xs) → Sm H H' → H' b = some (.tup xs) := fun e s => s _ _ e (fun _ z => nomatch z)
  refine ⟨_, rfl, Z, [d], _, hZ, sds, tb, ⟨S, R, ps, d, rfl, M, sm, fun ys h => h⟩, fun H1 at_ tt t s1 t1 n1 pf1 pt1 fr1 dt => ?_⟩
  have pot := depth_ok po sm lS lR lR1 dt
  refine ⟨by show 2 ≤ sizeLine; omega, fun p1 hp1 => ?_⟩
  refine ⟨by show 1 ≤ sizeLine; omega, fun p2 hp2 => ?_⟩
  obtain ⟨sD, pD⟩ := disp_one (K := K) hp1 hp2
  generalize (upd (upd H1 p1 (.tup [.int 0, .int 1])) p2 (.tup [.ref p1])) = HA at sD pD ⊢
  have sA := s1.trans (Same.sm sD)
  have tA := t1.same sD
  obtain ⟨its, pf1⟩ := pf1
  have pfA := sD _ _ pf1
  have ptA := PT.sm (Same.sm sD) pt1
  have lt := pot.len
  have pt' : ∀ {v : V} {p : List IQ} {H H' : Hp}, PolyT K H v p → Sm H H' → PolyT K H' v p := fun ⟨a, ts, e, h, t⟩ s => ⟨a, ts, e, (by
    rcases h with (h | ⟨o', h⟩) | h
    · exact .inl (.inl (s _ _ h (fun _ z => nomatch z)))
    · exact .inl (.inr ⟨o', s _ _ h (fun _ z => nomatch z)⟩)
    · exact .inr h), PT.sm s t⟩
  have pfT : ∀ {H : Hp} {a : Addr} {ts : List V} {p : List IQ}, PF H a ts → PT H ts p → PolyT K H (.ref a) p := fun ⟨its, h⟩ t => ⟨_, _, rfl, .inl (.inr ⟨_, h⟩), t⟩
  have pfS : ∀ {H H' : Hp} {a : Addr} {ts : List V}, PF H a ts → Sm H H' → PF H' a ts := fun ⟨its, h⟩ s => ⟨its, s _ _ h (fun _ z => nomatch z)⟩
  refine ⟨_, _, rfl, ?_⟩
  refine ⟨_, rfl, _, rfl, at_, _, tt, t, [(0, 1)], rfl, ⟨its, pfA⟩, ptA, asc_nodup (polyOk_asc pot), pD, by omega, by simp, tA, fun H2 a2' t2s u s2 t2 n2 pf2 pt2 fr2 c2 => ?_⟩
  refine ⟨by show 2 ≤ sizeLine; omega, fun p3 hp3 => ?_⟩
  refine ⟨by show 1 ≤ sizeLine; omega, fun p4 hp4 => ?_⟩
  obtain ⟨sE, pE⟩ := disp_one (K := K) hp3 hp4
  generalize (upd (upd H2 p3 (.tup [.int 0, .int 2])) p4 (.tup [.ref p3])) = HE at sE pE ⊢
  have s3 := s2.trans (Same.sm sE)
  have s03 := sA.trans s3
  have t3 := t2.same sE
  refine ⟨_, rfl, a, _, _, _, rfl, rfl, SqT.of (nt ha s03), atI_nat (j := 3) rfl, ?_⟩
  refine ⟨_, _, [(0, 2)], ps, rfl, pE, ⟨c, ts, rfl, SqT.of (nt hc s03), PT.sm s03 ht⟩, by simp, by omega, (fun x hx => by rw [List.mem_singleton.mp hx]; constructor <;> (dsimp only; omega)), t3, fun H4 a4 ts4 zs s4 t4 n4 pf4 pt4 fr4 c4 => ?_⟩
  have lz : zs.length ≤ 4 := by
    have := canon_len c4
    rw [mulP_len] at this
    simp at this
    omega
  refine ⟨_, rfl, a4, _, ts4, zs, [(0, 1)], rfl, pf4, pt4, asc_nodup c4.2, pt' pD (s3.trans s4), by omega, by simp, t4, fun H5 a5 ts5 ys5 s5 t5 n5 pf5 pt5 fr5 c5 => ?_⟩
  have s25 := ((Same.sm sE).trans s4).trans s5
  have lu : u.length ≤ 6 := by
    have := canon_len c2
    simp at this
    omega
  have l5 : ys5.length ≤ 5 := by
    have := canon_len c5
    simp at this
    omega
  have ex_t : Exps 4 t := pot.exp
  have ex_u : Exps 4 u := exps_canon (exps_app ex_t (exps_one (by omega))) c2
  have ex_z : Exps 4 zs := by
    refine exps_canon ?_ c4
    have := exps_mul (exps_one (x := 2) (Int.le_refl 0)) (show Exps 4 ps from po.exp)
    exact this
  have ex_5 : Exps 4 ys5 := exps_canon (exps_app ex_z (exps_one (by omega))) c5
  have co_u : ∀ x ∈ u, -(2 ^ 64) < x.2 ∧ x.2 < 2 ^ 64 := fun x hx => by
    rcases plus_mem (asc_nodup (polyOk_asc pot)) c2 x hx with h | rfl | ⟨y, hy, rfl⟩
    · have := pot.co x h
      omega
    · constructor <;> (dsimp only; omega)
    · have := pot.co y hy
      constructor <;> (dsimp only; omega)
  refine ⟨_, _, u, ys5, rfl, pt' (pfT pf2 pt2) s25, pfT pf5 pt5, by omega, by omega, co_u, t5, fun H6 a6 ts6 ys6 s6 t6 n6 pf6 pt6 fr6 c6 => ?_⟩
  have sA6 := ((s3.trans s4).trans s5).trans s6
  have l6 : ys6.length ≤ 30 := by
    have h1 := canon_len c6
    rw [mulP_len] at h1
    have : u.length * ys5.length ≤ 6 * 5 := Nat.mul_le_mul lu l5
    omega
  have ex_6 : Exps 8 ys6 := exps_canon (exps_mul ex_u ex_5) c6
  refine ⟨_, rfl, a6, _, ts6, ys6, t, rfl, pf6, pt6, asc_nodup c6.2, pt' (pfT ⟨its, pfA⟩ ptA) sA6, by omega, by omega, t6, fun H7 a7 ts7 ys7 s7 t7 n7 pf7 pt7 fr7 c7 => ?_⟩
  have s06 := sA.trans sA6
  have l7 := canon_len c7
  rw [List.length_append] at l7
  exact kk H7 a7 ts7 ys7 (s06.trans s7) t7 ((NewA.of n7).sm s06) pf7 pt7 (fun v hv t e => (NewA.of (fr7 v hv t e)).sm s06) (hq ys7 (exps_canon (exps_app ex_6 fun p hp => by
    have := ex_t p hp
    omega) c7) (by omega))
end
end Zk

set_option maxHeartbeats 1000000
/-! C7: rooms; machines that can be played. -/
namespace Zk
open PySem PySem.Spec PyProof.Rows L2 GxR TL SX Pq
abbrev s_law_rooms : Stmt := top 53
theorem sc_law_rooms : FnScope ["deck", "one"] ["deck"] (defScope s_law_rooms) := ⟨rfl, rfl, rfl, by decide +kernel, rfl, by decide +kernel, by decide +kernel⟩
abbrev s_law_is_playable : Stmt := top 54
theorem sc_law_is_playable : FnScope ["machine", "n", "most", "standings", "w", "many", "cell"] ["machine", "n", "most", "standings"] (defScope s_law_is_playable) := ⟨rfl, rfl, rfl, by decide +kernel, rfl, by decide +kernel, by decide +kernel⟩
abbrev s_law_playable : Stmt := top 55
theorem sc_law_playable : FnScope ["deck", "most", "standings", "machine", "n", "turn", "signs"] ["deck", "most", "standings"] (defScope s_law_playable) := ⟨rfl, rfl, rfl, by decide +kernel, rfl, by decide +kernel, by decide +kernel⟩
section
variable {P : Program} {w : World} {K : PySem.W.Frag} {mg : Str → Option Value} {base : Heap} {f c pt : Addr} {fd : FuncData} {Ta : List Addr}
/-- rooms of at most 500 cells -/
structure RoomOk (ps : List (Int × Int)) : Prop where
  ok : PolyOk ps
  p0 : ∃ c tl, ps = (0, c) :: tl
  v : ∀ n : Nat, n ≤ 7 → 1 ≤ polyV ps n ∧ polyV ps n ≤ 500
  sm : Small ps
theorem room_of {ps : List (Int × Int)} (h1 : PolyOk ps) (h2 : ∃ c tl, ps = (0, c) :: tl) (h3 : ∀ n ∈ [0, 1, 2, 3, 4, 5, 6, 7], 1 ≤ polyV ps n ∧ polyV ps n ≤ 500) (h4 : ∀ p ∈ ps, p.2 ≤ 100) (h5 : ps.length ≤ 4) : RoomOk ps :=
  ⟨h1, h2, fun n hn => h3 n (by simp; omega), h5, h4⟩
def RRooms : DFn := fun ds q => ds = [] ∧ ∀ ps, RoomOk ps → q (polyD ps)
theorem ok_rooms (F : Fun K "_law_rooms" "_law_rooms" s_law_rooms f fd) (T : Blt mg) (C1 : CallD P w K mg base "_law_draw" 1 ["deck", "many"] (spDk Ta kn RDraw)) (C2 : CallD P w K mg base "_law_pick" 2 ["deck", "some"] (spDk Ta kn RPick)) : FnOk P w K mg base CX0 3 f fd ["deck"] (spDk Ta kn RRooms) := by
  obtain ⟨_, _, G_law_draw, b_law_draw, k_law_draw, m_law_draw⟩ := C1.ex
  obtain ⟨_, _, G_law_pick, b_law_pick, k_law_pick, m_law_pick⟩ := C2.ex
  refine fn_k (N := ["one"]) (ps := []) (n0 := "deck") (k := 2) F sc_law_rooms (fun ds q ⟨h, _⟩ => by rw [h]; rfl) (by decide) fun cdv A outer s H E hr => ⟨_, (dss_cons (ds_of (ps_set (i := 1) sc_law_rooms.nd rfl (Or.inl rfl) (dx_op op_add (opS_int _) dx_int (dx_callK (i := 0) G_law_draw (hr.mono (by omega)) rfl m_law_draw k_law_draw b_law_draw (pv 0) (da_cons dx_int da_nil)))) (fun _ _ _ h => h))
    (dss_one (ds_ret (dx_callK (i := 0) G_law_pick (hr.mono (by omega)) rfl m_law_pick k_law_pick b_law_pick (pv 0) (da_cons (dx_lst (da_cons (dx_tup (da_cons (dx_tup (da_cons dx_int (da_cons (dx_var 1) da_nil))) da_nil)) (da_cons (dx_tup (da_cons (dx_tup (da_cons dx_int (da_cons dx_int da_nil))) (da_cons (dx_tup (da_cons dx_int (da_cons dx_int da_nil))) da_nil))) (da_cons (dx_tup (da_cons (dx_tup (da_cons dx_int (da_cons (dx_var 1) da_nil))) (da_cons (dx_tup (da_cons dx_int (da_cons dx_int da_nil))) da_nil))) (da_cons (dx_tup (da_cons (dx_tup (da_cons dx_int (da_cons dx_int da_nil))) (da_cons (dx_tup (da_cons dx_int (da_cons dx_int da_nil))) da_nil))) (da_cons (dx_tup (da_cons (dx_tup (da_cons dx_int (da_cons dx_int da_nil))) (da_cons (dx_tup (da_cons dx_int (da_cons dx_int da_nil))) (da_cons (dx_tup (da_cons dx_int (da_cons dx_int da_nil))) da_nil)))) (da_cons (dx_tup (da_cons (dx_tup (da_cons dx_int (da_cons dx_int da_nil))) (da_cons (dx_tup (da_cons dx_int (da_cons dx_int da_nil))) da_nil))) da_nil))))))) da_nil))))), fun ds q ⟨h, hq⟩ => ?_⟩
  subst h
  change rSeq _ _ _ [DV.deck, .no]
  refine seq_setP (fun d => ∃ o : Int, d = .int o ∧ (o = 1 ∨ o = 2 ∨ o = 3)) (fun q' h => ?_) (by simp) ?_
  · simp [and_assoc]
    intro r r0 r1
    exact h _ ⟨1 + r, rfl, by omega⟩
  rintro _ ⟨o, rfl, ho⟩
  simp only [List.set_cons_succ, List.set_cons_zero]
  simp [and_assoc]
  refine ⟨by decide, by decide, by decide, by decide, by decide, by decide, pick_lst (by simp) (by simp) fun x hx => ?_⟩
  have go : ∀ ps, RoomOk ps → x = polyD ps → q x := fun ps a e => by rw [e]; exact hq ps a
  simp at hx
  rcases hx with rfl | rfl | rfl | rfl | rfl | rfl
  · refine go [(0, o)] (room_of ⟨by simp, by simp, by simp; omega, by simp⟩ ⟨_, _, rfl⟩ ?_ (by simp; omega) (by simp)) rfl
    rcases ho with rfl | rfl | rfl <;> decide
  · exact go [(0, 1), (1, 1)] (room_of ⟨by simp, by simp, by simp, by simp⟩ ⟨_, _, rfl⟩ (by decide) (by decide) (by simp)) rfl
  · refine go [(0, o), (1, 1)] (room_of ⟨by simp, by simp, by simp; omega, by simp⟩ ⟨_, _, rfl⟩ ?_ (by simp; omega) (by simp)) rfl
    rcases ho with rfl | rfl | rfl <;> decide
  · exact go [(0, 1), (2, 1)] (room_of ⟨by simp, by simp, by simp, by simp⟩ ⟨_, _, rfl⟩ (by decide) (by decide) (by simp)) rfl
  · exact go [(0, 2), (1, 1), (3, 1)] (room_of ⟨by simp, by simp, by simp, by simp⟩ ⟨_, _, rfl⟩ (by decide) (by decide) (by simp)) rfl
  · exact go [(0, 1), (1, 2)] (room_of ⟨by simp, by simp, by simp, by simp⟩ ⟨_, _, rfl⟩ (by decide) (by decide) (by simp)) rfl
/-- the number of all standings -/
def cntS (a b w : Nat) : Nat := (b + 2) * w * a ^ w
def RIsPl : DFn := fun ds q => ∃ S R ps d, ∃ n w : Nat, ds = [d, .int n, .int 150, .int 2000] ∧ Mach S R ps d ∧ Small ps ∧ n ≤ 100 ∧ polyV ps n = (w : Int) ∧ 1 ≤ w ∧ w ≤ 500 ∧ ∀ b : Bool, (b = true → w ≤ 6 ∧ cntS S.length R.length w ≤ 2000) → q (.bool b)
theorem ok_isPl (F : Fun K "_law_is_playable" "_law_is_playable" s_law_is_playable f fd) (T : Blt mg) (C1 : CallD P w K mg base "_law_value" 1 ["poly", "n"] (spD' Ta RLV)) (C2 : CallD P w K mg base "_law_many" 3 ["machine"] (spF Ta RLMany)) : FnOk P w K mg base CX0 4 f fd ["machine", "n", "most", "standings"] (spD' Ta RIsPl) := by
  obtain ⟨_, _, G_law_value, b_law_value, k_law_value, m_law_value⟩ := C1.ex
  obtain ⟨_, _, G_law_many, b_law_many, k_law_many, m_law_many⟩ := C2.ex
  refine fn_d (k := 3) kn F sc_law_is_playable (fun ds q ⟨_, _, _, _, _, _, h, _⟩ => by rw [h]; rfl) (by decide) fun cdv A outer s H E hr => ⟨_, (dss_cons (ds_of (ps_set (i := 4) sc_law_is_playable.nd rfl (Or.inl rfl) (dx_call G_law_value (hr.mono (by omega)) rfl m_law_value k_law_value b_law_value (da_cons (dx_ix ix_A opS_ix (dx_var 0) dx_int (fun _ _ => rfl)) (da_cons (dx_var 1) da_nil)))) (fun _ _ _ h => h))
    (dss_cons (ds_if (PW.pt (dw_or (dt_cmp op_gt (opS_bool _) (dx_var 4) dx_int (nomark _)) (dw_or1 (dt_cmp op_gt (opS_bool _) (dx_call G_law_value (hr.mono (by omega)) rfl m_law_value k_law_value b_law_value (da_cons (dx_callF G_law_many (hr.mono (by omega)) rfl m_law_many k_law_many b_law_many (da_cons (dx_var 0) da_nil)) (da_cons (dx_var 1) da_nil))) (dx_var 2) (nomark _))))) (dss_one (ds_ret dx_bl)) dss_nil)
    (dss_cons (ds_of (ps_set (i := 5) sc_law_is_playable.nd rfl (Or.inl rfl) (dx_op op_mul (opS_intC _ _) (dx_op op_add (opS_int _) (dx_callB call_len callS_len (by rfl) T.len PySem.boot_len (da_cons (dx_ix ix_A opS_ix (dx_var 0) dx_int (fun _ _ => rfl)) da_nil)) dx_int) (dx_var 4))) (fun _ _ _ h => h))
    (dss_cons (ds_for PassesOwn.never rfl (di_range (by rfl) T.range (dx_var 4)) (pg_name (i := 6) sc_law_is_playable.nd rfl (Or.inl rfl)) (gs_n 6) (dss_one (ds_of (ps_set (i := 5) sc_law_is_playable.nd rfl (Or.inl rfl) (dx_op op_mul (opS_intC _ _) (dx_var 5) (dx_callB call_len callS_len (by rfl) T.len PySem.boot_len (da_cons (dx_ix ix_A opS_ix (dx_var 0) dx_int (fun _ _ => rfl)) da_nil)))) (fun _ _ _ h => h))))
    (dss_one (ds_ret (dx_cmp op_le (opS_bool _) (dx_var 5) (dx_var 3) (nomark _)))))))), fun ds q ⟨S, R, ps, d, n, w', h, M, sm, hn, hv, w1, w2, hq⟩ => ?_⟩
  subst h
  have hsz : sizeLine = 16777216 := sizeLine_eq
  have po := M.po
  have hR' : R.length ≤ sizeLine := Nat.le_trans M.r24 (by decide)
  have hS' : S.length ≤ sizeLine := Nat.le_trans M.s26 (by decide)
  have s26 := M.s26
  have r24 := M.r24
  change rSeq _ _ _ [DV.d _, .d _, .d _, .d _, .no, .no, .no]
  refine seq_set1 (.int w') (fun q' h => ?_) (by simp) ?_
  · rw [M.e]
    simp [and_assoc]
    exact ⟨_, rfl, ps, n, rfl, Nat.le_trans po.len (by omega), fun p hp => by have := po.exp p hp; omega, hn, by rw [hv]; exact h⟩
  simp only [List.set_cons_succ, List.set_cons_zero]
  by_cases hw6 : 6 < w'
  · refine seq_take (fun k hk => ?_) ?_
    · simp
      rw [if_pos (by omega)]
      exact hk
    exact hq false (fun h => by cases h)
  · refine seq_may True (fun k k1 k2 => ?_) (fun _ => hq false (fun h => by cases h)) ?_
    · simp
      rw [if_neg (by omega)]
      refine ⟨S, R, ps, d, rfl, M, sm, fun ys hy ly => ⟨ys, n, rfl, by omega, fun p hp => by have := hy p hp; omega, hn, _, rfl, ?_⟩⟩
      by_cases z : 150 < polyV ys n
      · rw [decide_eq_true z]
        exact k2 trivial
      · rw [decide_eq_false z]
        exact k1
    have cm : CMul ((R.length : Int) + 2) (w' : Int) := .inl ⟨by omega, by omega⟩
    refine seq_set1 (.int (((R.length + 2) * w' : Nat) : Int)) (fun q' h => ?_) (by simp) ?_
    · rw [M.e]
      simp [hR', cm]
      simpa using h
    simp only [List.set_cons_succ, List.set_cons_zero]
    refine seq_for (intsD 0 w') (fun k E => ∃ e6 : DV, E = [.d d, .d (.int n), .d (.int 150), .d (.int 2000), .d (.int w'), .d (.int (((R.length + 2) * w' * S.length ^ k : Nat) : Int)), e6]) (rngV w' (by omega)) ⟨.no, by simp⟩ ?_ ?_
    · rintro k x E' hx ⟨e6, rfl⟩
      have e : (R.length + 2) * w' * S.length ^ (k + 1) = (R.length + 2) * w' * S.length ^ k * S.length := by rw [Nat.pow_succ, Nat.mul_assoc ((R.length + 2) * w')]
      rw [e]
      generalize (R.length + 2) * w' * S.length ^ k = mv
      have cm2 : CMul (mv : Int) (S.length : Int) := .inr ⟨by omega, by omega⟩
      refine ⟨by simp, ?_⟩
      simp only [List.set_cons_succ, List.set_cons_zero]
      rw [M.e]
      simp [hS', cm2]
    · rintro E' ⟨e6, rfl⟩
      rw [ints_len]
      simp
      refine hq _ fun hb => ⟨by omega, ?_⟩
      have := of_decide_eq_true hb
      have e : ((cntS S.length R.length w' : Nat) : Int) = (↑R.length + 2) * ↑w' * ↑S.length ^ w' := by unfold cntS; simp
      rw [← e] at this
      omega
/-- a machine and a word that can be played -/
structure Play (m : PyData) (z : Str) (S : Str) (R : List PyData) (ps : List (Int × Int)) (w : Nat) : Prop where
  m : Mach S R ps m
  sm : Small ps
  lz : Low z
  l3 : z.length ≤ 3
  v : polyV ps z.length = (w : Int)
  w1 : 1 ≤ w
  w6 : w ≤ 6
  cnt : cntS S.length R.length w ≤ 2000
theorem low_cut {S : Str} (h : Low S) (k : Nat) : Low (cutS S none (some (k : Int))) := fun c hc => by
  rw [cutTo] at hc
  exact h c (List.mem_of_mem_take hc)
theorem asc_cut {S : Str} (h : Asc S) (k : Nat) : Asc (cutS S none (some (k : Int))) := by
  unfold Asc
  rw [cutTo]
  exact h.sublist (List.take_sublist _ _)
theorem len_cut {S : Str} {k : Nat} (h : k ≤ S.length) : (cutS S none (some (k : Int))).length = k := by
  rw [str_len, cutTo, List.length_take, ← str_len]
  omega
theorem seq_fin {a r2 : DRS} {K : DEnds} {E : DEnv} (I : DEnv → Prop) (h1 : ∀ nx : DEnv → Prop, (∀ E', I E' → nx E') → a { K with nx := nx } E) (h2 : ∀ E', I E' → r2 K E') : rSeq a r2 K E := h1 _ h2
theorem ifS_may {rt : DRT} {r1 : DRS} {K : DEnds} {E : DEnv} (P : Prop) (ht : ∀ k : Bool → Prop, k true → (P → k false) → rt E k) (h1 : r1 K E) (h2 : P → K.nx E) : rIfS rt r1 rNil K E := ht _ (iteT h1) fun p => iteF (h2 p)
def RPlay : DFn := fun ds q => ds = [.int 150, .int 2000] ∧ ∀ m z S R ps w, Play m z S R ps w → q (.tuple [m, .str z])
theorem ok_playable (F : Fun K "_law_playable" "_law_playable" s_law_playable f fd) (T : Blt mg) (C0 : CallD P w K mg base "_law_pick" 2 ["deck", "some"] (spDk Ta kn RPick)) (C1 : CallD P w K mg base "_law_draw" 1 ["deck", "many"] (spDk Ta kn RDraw))
    (C2 : CallD P w K mg base "_law_drawn" 4 ["deck", "room", "most"] (spDk Ta kn RDrawn)) (C3 : CallD P w K mg base "_law_word" 3 ["deck", "machine", "n"] (spDk Ta kn RLWord)) (C4 : CallD P w K mg base "_law_rooms" 3 ["deck"] (spDk Ta kn RRooms)) (C5 : CallD P w K mg base "_law_rules" 3 ["deck", "signs", "many"] (spDk Ta kn RRules))
    (C6 : CallD P w K mg base "_law_is_playable" 4 ["machine", "n", "most", "standings"] (spD' Ta RIsPl)) : FnOk P w K mg base CX0 5 f fd ["deck", "most", "standings"] (spDk Ta kn RPlay) := by
  obtain ⟨_, _, G_law_pick, b_law_pick, k_law_pick, m_law_pick⟩ := C0.ex
  obtain ⟨_, _, G_law_draw, b_law_draw, k_law_draw, m_law_draw⟩ := C1.ex
  obtain ⟨_, _, G_law_drawn, b_law_drawn, k_law_drawn, m_law_drawn⟩ := C2.ex
  obtain ⟨_, _, G_law_word, b_law_word, k_law_word, m_law_word⟩ := C3.ex
  obtain ⟨_, _, G_law_rooms, b_law_rooms, k_law_rooms, m_law_rooms⟩ := C4.ex
  obtain ⟨_, _, G_law_rules, b_law_rules, k_law_rules, m_law_rules⟩ := C5.ex
  obtain ⟨_, _, G_law_is_playable, b_law_is_playable, k_law_is_playable, m_law_is_playable⟩ := C6.ex
  refine fn_k (N := ["most", "standings", "machine", "n", "turn", "signs"]) (ps := ["most", "standings"]) (n0 := "deck") (k := 4) F sc_law_playable (fun ds q ⟨h, _⟩ => by rw [h]; rfl) (by decide) fun cdv A outer s H E hr => ⟨_, (dss_cons (ds_par (ps_par (i := 3) (j := 4) rfl sc_law_playable.nd rfl rfl (by decide) rfl rfl (dp_v (dx_callK (i := 0) G_law_drawn (hr.mono (by omega)) rfl m_law_drawn k_law_drawn b_law_drawn (pv 0) (da_cons (dx_callK (i := 0) G_law_rooms (hr.mono (by omega)) rfl m_law_rooms k_law_rooms b_law_rooms (pv 0) da_nil) (da_cons dx_int da_nil))) (dp_v (dx_callK (i := 0) G_law_pick (hr.mono (by omega)) rfl m_law_pick k_law_pick b_law_pick (pv 0) (da_cons (dx_lst (da_cons dx_int (da_cons dx_int (da_cons dx_int (da_cons dx_int da_nil))))) da_nil)) dp_nil)) (by rfl)))
    (dss_cons (ds_for PassesOwn.never rfl (di_range (by rfl) T.range dx_int) (pg_name (i := 5) sc_law_playable.nd rfl (Or.inl rfl)) (gs_n 5) (dss_one (ds_of (ps_set (i := 4) sc_law_playable.nd rfl (Or.inl rfl) (dx_if (PW.pt (dw_and (dt_cmp op_gt (opS_bool _) (dx_var 4) dx_int (nomark _)) (dw_and1 (dt_not (dt_val (dx_call G_law_is_playable (hr.mono (by omega)) rfl m_law_is_playable k_law_is_playable b_law_is_playable (da_cons (dx_var 3) (da_cons (dx_var 4) (da_cons (dx_var 1) (da_cons (dx_var 2) da_nil)))))))))) (dx_op op_sub (opS_int _) (dx_var 4) dx_int) (dx_var 4))) (fun _ _ _ h => h))))
    (dss_cons (ds_if (dt_not (dt_val (dx_call G_law_is_playable (hr.mono (by omega)) rfl m_law_is_playable k_law_is_playable b_law_is_playable (da_cons (dx_var 3) (da_cons (dx_var 4) (da_cons (dx_var 1) (da_cons (dx_var 2) da_nil))))))) (dss_cons (ds_of (ps_set (i := 6) sc_law_playable.nd rfl (Or.inl rfl) (dx_sl (dx_ix ix_A opS_ix (dx_var 3) dx_int (fun _ _ => rfl)) do_n (do_s dx_int))) (fun _ _ _ h => h))
    (dss_one (ds_of (ps_set (i := 3) sc_law_playable.nd rfl (Or.inl rfl) (dx_tup (da_cons dx_str (da_cons (dx_var 6) (da_cons (dx_callK (i := 0) G_law_rules (hr.mono (by omega)) rfl m_law_rules k_law_rules b_law_rules (pv 0) (da_cons (dx_var 6) (da_cons (dx_op op_add (opS_int _) dx_int (dx_callK (i := 0) G_law_draw (hr.mono (by omega)) rfl m_law_draw k_law_draw b_law_draw (pv 0) (da_cons dx_int da_nil))) da_nil))) (da_cons (dx_tup (da_cons (dx_tup (da_cons dx_int (da_cons dx_int da_nil))) da_nil)) da_nil)))))) (fun _ _ _ h => h)))) dss_nil)
    (dss_one (ds_ret (dx_tup (da_cons (dx_var 3) (da_cons (dx_callK (i := 0) G_law_word (hr.mono (by omega)) rfl m_law_word k_law_word b_law_word (pv 0) (da_cons (dx_var 3) (da_cons (dx_var 4) da_nil))) da_nil)))))))), fun ds q ⟨h, hq⟩ => ?_⟩
  subst h
  have hsz : sizeLine = 16777216 := sizeLine_eq
  change rSeq _ _ _ [DV.deck, .d _, .d _, .no, .no, .no, .no]
  refine seq_parP (fun a b => ∃ (m : PyData) (S : Str) (R : List PyData) (ps : List (Int × Int)) (n : Nat), a = .d m ∧ b = .d (.int n) ∧ Mach S R ps m ∧ RoomOk ps ∧ n ≤ 3) (fun q' h => ?_) (by simp) (by simp) ?_
  · simp [and_assoc]
    refine ⟨rfl, fun ps ro => ⟨ps, rfl, ro.ok, ro.p0, fun S R d M _ _ => ⟨by omega, pick_lst (by simp) (by simp) fun x hx => ?_⟩⟩⟩
    simp at hx
    rcases hx with rfl | rfl | rfl | rfl
    · exact h _ _ ⟨d, S, R, ps, 1, rfl, rfl, M, ro, by omega⟩
    · exact h _ _ ⟨d, S, R, ps, 0, rfl, rfl, M, ro, by omega⟩
    · exact h _ _ ⟨d, S, R, ps, 2, rfl, rfl, M, ro, by omega⟩
    · exact h _ _ ⟨d, S, R, ps, 3, rfl, rfl, M, ro, by omega⟩
  rintro _ _ ⟨m, S, R, ps, n, rfl, rfl, M, ro, hn⟩
  simp only [List.set_cons_succ, List.set_cons_zero]
  refine seq_for (intsD 0 4) (fun _ E => ∃ (n : Nat) (e5 : DV), n ≤ 3 ∧ E = [.deck, .d (.int 150), .d (.int 2000), .d m, .d (.int n), e5, .no]) (rng 4) ⟨n, _, hn, rfl⟩ ?_ ?_
  · rintro i2 d2 E2 hd2 ⟨n, e5, hn, rfl⟩
    refine ⟨by simp, ?_⟩
    simp only [List.set_cons_succ, List.set_cons_zero]
    by_cases hn0 : n = 0
    · subst hn0
      simp
      exact ⟨0, by omega, by simp⟩
    · have c0 : (0 : Int) < (n : Int) := by omega
      have n0 : 0 < n := by omega
      obtain ⟨v1, v2⟩ := ro.v n (by omega)
      simp [c0, n0]
      refine ⟨S, R, ps, m, n, (polyV ps n).toNat, rfl, M, ro.sm, by omega, by omega, by omega, by omega, fun b _ => ?_⟩
      cases b with
      | true => exact .inr ⟨rfl, n, hn, rfl⟩
      | false => exact .inl ⟨rfl, n - 1, by omega, by omega⟩
  · rintro E2 ⟨n, e5, hn, rfl⟩
    obtain ⟨v1, v2⟩ := ro.v n (by omega)
    refine seq_fin (fun E => ∃ m S R ps w e6, E = [.deck, .d (.int 150), .d (.int 2000), .d m, .d (.int n), e5, e6] ∧ Mach S R ps m ∧ Small ps ∧ polyV ps n = ((w : Nat) : Int) ∧ 1 ≤ w ∧ w ≤ 6 ∧ cntS S.length R.length w ≤ 2000) (fun nx hnx => ?_) ?_
    · refine ifS_may ((polyV ps n).toNat ≤ 6 ∧ cntS S.length R.length (polyV ps n).toNat ≤ 2000) (fun k k1 k2 => ?_) ?_ (fun hp => hnx _ ⟨m, S, R, ps, (polyV ps n).toNat, _, rfl, M, ro.sm, by omega, by omega, hp.1, hp.2⟩)
      · simp
        refine ⟨S, R, ps, m, n, (polyV ps n).toNat, rfl, M, ro.sm, by omega, by omega, by omega, by omega, fun b hb => ?_⟩
        cases b with
        | true => exact .inr ⟨rfl, k2 (hb rfl)⟩
        | false => exact .inl ⟨rfl, k1⟩
      have s2 := M.s2
      have s26 := M.s26
      refine seq_set1 (.str (cutS S none (some 2))) (fun q' h => ?_) (by simp) ?_
      · rw [M.e]
        simp [and_assoc]
        exact ⟨by omega, h⟩
      simp only [List.set_cons_succ, List.set_cons_zero]
      have e2 : (cutS S none (some 2)).length = 2 := len_cut (k := 2) s2
      have lw : Low (cutS S none (some 2)) := low_cut M.low 2
      have ac : Asc (cutS S none (some 2)) := asc_cut M.asc 2
      simp [and_assoc]
      intro r r0 r1
      obtain ⟨j, rfl⟩ : ∃ j : Nat, r = j := ⟨r.toNat, by omega⟩
      refine ⟨_, 1 + j, rfl, by rw [e2]; omega, by rw [e2]; omega, by omega, by omega, fun R' l' ok' => ⟨by omega, by omega, by omega, hnx _ ⟨_, cutS S none (some 2), R', [(0, 1)], 1, _, rfl, ⟨rfl, lw, ac, by omega, by omega, by omega, by omega, by rw [l']; exact ok', ⟨by simp, by simp, by simp, by simp⟩, ⟨_, _, rfl⟩⟩, ⟨by simp, by simp⟩, by simp [polyV], by omega, by omega, ?_⟩⟩⟩
      unfold cntS
      rw [e2, l']
      have : j ≤ 1 := by omega
      omega
    rintro E' ⟨m, S, R, ps, w', e6, rfl, M, sm, hv, w1, w6, hc⟩
    simp
    exact ⟨S, R, ps, m, n, rfl, M, by omega, fun z lz hz => ⟨by omega, hq m z S R ps w' ⟨M, sm, lz, by omega, by rw [hz]; exact hv, w1, w6, hc⟩⟩⟩
end
end Zk

set_option maxHeartbeats 1000000
/-! E51: how many standings there are; 2 to the depth. -/
namespace Zk
open PySem PySem.Spec PyProof.Rows L2 GxR TL SX Pq
theorem flat_len {α β : Type} {f : α → List β} {n : Nat} : ∀ (l : List α), (∀ x ∈ l, (f x).length = n) → (l.flatMap f).length = l.length * n
  | [], _ => by simp
  | x :: l, h => by
    rw [List.flatMap_cons, List.length_append, h x List.mem_cons_self, flat_len l fun y hy => h y (List.mem_cons_of_mem _ hy), List.length_cons, Nat.succ_mul]
    omega
/-- all lists of so many of these -/
def wordsL (cs : List Nat) : Nat → List (List Nat)
  | 0 => [[]]
  | n + 1 => cs.flatMap fun c => (wordsL cs n).map fun l => c :: l
theorem wordsL_len (cs : List Nat) : ∀ n, (wordsL cs n).length = cs.length ^ n
  | 0 => rfl
  | n + 1 => by
    unfold wordsL
    rw [flat_len (n := cs.length ^ n) cs fun x _ => by rw [List.length_map, wordsL_len cs n], Nat.pow_succ, Nat.mul_comm]
theorem wordsL_mem (cs : List Nat) : ∀ (l : List Nat), (∀ c ∈ l, c ∈ cs) → l ∈ wordsL cs l.length
  | [], _ => by simp [wordsL]
  | c :: l, h => by
    unfold wordsL
    exact List.mem_flatMap.mpr ⟨c, h c List.mem_cons_self, List.mem_map.mpr ⟨l, wordsL_mem cs l fun x hx => h x (List.mem_cons_of_mem _ hx), rfl⟩⟩
def allSt (cs : List Nat) (m w : Nat) : List St3 := (List.range (m + 2)).flatMap fun s => (List.range w).flatMap fun h => (wordsL cs w).map fun l => (s, h, (⟨l.toArray⟩ : Str))
theorem allSt_len (cs : List Nat) (m w : Nat) : (allSt cs m w).length = (m + 2) * (w * cs.length ^ w) := by
  unfold allSt
  rw [flat_len (n := w * cs.length ^ w) _ fun x _ => by rw [flat_len (n := cs.length ^ w) _ fun y _ => by rw [List.length_map, wordsL_len], List.length_range], List.length_range]
theorem allSt_mem {S : Str} {m w : Nat} {t : St3} (h : Ok3 S m w t) : t ∈ allSt S.cps.toList m w := by
  obtain ⟨s, h', z⟩ := t
  have h0 : s ≤ m + 1 := h.s0
  have h1 : h' < w := h.h0
  have h2 : z.length = w := h.l
  refine List.mem_flatMap.mpr ⟨s, List.mem_range.mpr (by omega), List.mem_flatMap.mpr ⟨h', List.mem_range.mpr h1, List.mem_map.mpr ⟨z.cps.toList, ?_, rfl⟩⟩⟩
  have := wordsL_mem S.cps.toList z.cps.toList h.sg
  rw [← str_len, h2] at this
  exact this
theorem nodup_range {α : Type} {f : Nat → α} : ∀ {k : Nat}, (∀ i j, i < j → j < k → f i ≠ f j) → ((List.range k).map f).Nodup := fun {k} h => by
  rw [List.Nodup, List.pairwise_map]
  refine List.pairwise_lt_range.imp_of_mem fun {a b} ha hb hab => h a b hab (List.mem_range.mp hb)
theorem orb_count {S : Str} {R : List PyData} {ps : List (Int × Int)} {d : PyData} {w k : Nat} {t : St3} (M : Mach S R ps d) (H : Ok3 S R.length w t) (nd : ∀ i j, i < j → j < k → orb S R t i ≠ orb S R t j) : k ≤ cntS S.length R.length w := by
  have h1 := nodup_range nd
  have h2 := StT.len_le ((List.range k).map (orb S R t)) (allSt S.cps.toList R.length w) h1 fun x hx => by
    obtain ⟨i, _, rfl⟩ := List.mem_map.mp hx
    exact allSt_mem (orb_ok M H i)
  rw [List.length_map, List.length_range, allSt_len, ← str_len] at h2
  unfold cntS
  rw [Nat.mul_assoc]
  exact h2
theorem cnt_pow {a b w : Nat} (ha : 1 ≤ a) : cntS a b w ≤ 2 ^ ((lgB a + 1) * w + lgB (b + 2)) := by
  have h1 : b + 2 ≤ 2 ^ lgB (b + 2) := lgB_ge (by omega)
  have h2 : a ^ w ≤ 2 ^ (lgB a * w) := by
    rw [Nat.pow_mul]
    exact Nat.pow_le_pow_left (lgB_ge ha) w
  have h3 : w ≤ 2 ^ w := Nat.le_of_lt Nat.lt_two_pow_self
  unfold cntS
  rw [Nat.add_mul (lgB a), Nat.one_mul, Nat.pow_add, Nat.pow_add]
  have h4 : (b + 2) * w ≤ 2 ^ lgB (b + 2) * 2 ^ w := Nat.mul_le_mul h1 h3
  have h5 := Nat.mul_le_mul h4 h2
  rw [Nat.mul_comm (2 ^ (lgB a * w) * 2 ^ w), Nat.mul_comm (2 ^ (lgB a * w)), ← Nat.mul_assoc]
  exact h5
/-! ### sizes -/
abbrev NB (a b : Nat) (d : PyData) : Prop := Nice (10 ^ 39) 128 a b d
theorem nice_all {B U a b : Nat} : ∀ {ds : List PyData}, (∀ d ∈ ds, Nice B U a b d) → NiceAll B U a ((b + 2) * ds.length) ds
  | [], _ => .nil
  | d :: ds, h => by
    have := NiceAll.cons (h d (by simp)) (nice_all fun e he => h e (List.mem_cons_of_mem _ he))
    refine this.mono (Nat.le_refl _) (Nat.le_refl _) ?_
    rw [List.length_cons, Nat.mul_succ]
    omega
theorem nb_int {i : Int} (h : i.natAbs < 1024) : NB 0 11 (.int i) := nice_int (k := 9) (Nat.le_trans (Nat.le_of_lt h) (by decide)) h
theorem nb_poly {ps : List (Int × Int)} (h : PolyOk ps) : NB 2 160 (polyD ps) := by
  have := h.len
  refine (nice_tup (nice_all (b := 28) fun d hd => ?_)).mono (Nat.le_refl _) (Nat.le_refl _) (by rw [List.length_map]; omega)
  obtain ⟨p, hp, rfl⟩ := List.mem_map.mp hd
  have h1 := h.exp p hp
  have h2 := h.co p hp
  exact (nice_tup (.cons (nb_int (by omega)) (.cons (nb_int (by omega)) .nil))).mono (Nat.le_refl _) (Nat.le_refl _) (by omega)
theorem repr_poly {ps : List (Int × Int)} (h : PolyOk ps) : (polyD ps).showable = true ∧ (polyD ps).depth ≤ 100 ∧ (polyD ps).shown.length ≤ sizeLine := by
  refine (nb_poly h).repr (by decide) (by decide) (by decide) ?_
  have := sizeLine_eq
  omega
/-! ### the machines of the first part -/
def alphaS : Str := "abcdefghijklmnopqrstuvwxyz"
theorem alpha_len : alphaS.length = 26 := by decide
theorem alpha_low : Low alphaS := by
  unfold Low
  have : alphaS.cps.toList = List.range' 97 26 := by decide
  rw [this]
  intro c hc
  have := List.mem_range'_1.mp hc
  omega
theorem alpha_asc : Asc alphaS := by
  unfold Asc
  have : alphaS.cps.toList = List.range' 97 26 := by decide
  rw [this]
  exact List.pairwise_lt_range'
def row0 (m : Nat) : PyData := .tuple (List.replicate m (.tuple [.int 0, .str "a", .int 1]))
theorem mach0 {m s : Nat} {ps : List (Int × Int)} (m2 : 2 ≤ m) (m26 : m ≤ 26) (s1 : 1 ≤ s) (s24 : s ≤ 24) (po : PolyOk ps) (p0 : ∃ c tl, ps = (0, c) :: tl) : Mach (cutS alphaS none (some (m : Int))) (List.replicate s (row0 m)) ps (.tuple [.str "machine", .str (cutS alphaS none (some (m : Int))), .tuple (List.replicate s (row0 m)), polyD ps]) := by
  have hl := len_cut (S := alphaS) (k := m) (by rw [alpha_len]; exact m26)
  refine ⟨rfl, low_cut alpha_low m, asc_cut alpha_asc m, by rw [hl]; exact m2, by rw [hl]; exact m26, by rw [List.length_replicate]; exact s1, by rw [List.length_replicate]; exact s24, fun x hx => ?_, po, p0⟩
  rw [(List.mem_replicate.mp hx).2]
  refine ⟨_, rfl, by rw [List.length_replicate, hl], fun r hr => ?_⟩
  rw [(List.mem_replicate.mp hr).2]
  refine ⟨0, 97, 1, by simp; decide, by omega, ?_, by omega, by omega⟩
  rw [cutTo]
  have : alphaS.cps.toList = 97 :: List.range' 98 25 := by decide
  rw [this]
  obtain ⟨j, rfl⟩ : ∃ j, m = j + 1 := ⟨m - 1, by omega⟩
  rw [List.take_succ_cons]
  exact List.mem_cons_self
end Zk

set_option maxHeartbeats 2000000
/-! Ki: the end of a law's proof, run from the top, with tables of code objects. -/
namespace Zk
open PySem PySem.Spec PyProof.Rows L2
section
variable {P : Program} {w : World} {K : PySem.W.Frag} {mg : Str → Option Value}
theorem law_topT {mb : Str → Option Value} {fa a : Addr} {fd : FuncData} {x : Str} {sp : Sp} {s : Shared} {vs : List Value} {ns : List Int} {cs : List (Addr × Addr)}
    (KX : K.In s.heap) (hm : s.heap.Ns mainGlobals mg) (hb : s.heap.Ns builtinsNs mb) (hbb : ∀ y : Str, y ≠ "__name__" → mb y = bootBuiltins y) (lim : s.heap.NoLimit) (hg : s.gens = #[])
    (hT : ∀ p ∈ cs, s.heap.get? p.2 = some { cls := .none, data := .fields #[] }) (nT : ∀ p ∈ cs, K.lookup p.2 = none) (C : ∀ p ∈ cs, PySem.W.CodeHd s.heap p.1 p.2)
    (hbm : ∃ (bm : Addr) (ob : Obj), mg "__builtins__" = some (.ref bm) ∧ bm ≠ builtinsNs ∧ s.heap.get? bm = some ob ∧ ob.cls = .type "module" ∧ ob.dict = some builtinsNs ∧ ob.data = .plain)
    (ha : s.heap.get? a = some { cls := .type "list", data := .seq vs.toArray }) (hi : IntsAre vs ns) (hl : ns.length ≤ sizeLine)
    (sys : ∃ mm, s.heap.Ns sysModules mm) (F : ∀ base : Heap, K.In base → base.Ns mainGlobals mg → SysB base → (∀ p ∈ cs, GxR.TabB base mg p.1 p.2) → LawAt P w K mg base fa fd [x] sp) (bind : ∀ (s : Shared) (u : Value), BindsTo s fd ⟨[u], []⟩ [(x, u)])
    (hsp : ∀ H : Hp, (∀ p ∈ cs, H p.2 = some (.tbl #[])) → SqL K H a (ns.map V.int) → sp [.ref a] H (fun v _ => v = .bl true) E0) :
    codeAny (model P w) callerA (.call (.ref fa) ⟨[.ref a], []⟩) (fun r s' => r = .ok (.ret (.bool true)) ∧ OldK s.heap s'.heap ∧ s'.os = s.os ∧ AllBare s'.gens) s := by
  have tabAt : ∀ b, b ∈ cs.map (·.2) → s.heap.get? b = some { cls := .none, data := .fields #[] } := fun b h => by
    obtain ⟨p, hp, e⟩ := List.mem_map.mp h
    exact e ▸ hT p hp
  have inT : ∀ p ∈ cs, p.2 ∈ cs.map (·.2) := fun p hp => List.mem_map.mpr ⟨p, hp, rfl⟩
  have noTa : a ∉ cs.map (·.2) := fun h => by
    have z := tabAt a h
    rw [ha] at z
    cases (show Data.seq vs.toArray _ = Data.fields #[] from congrArg Obj.data (Option.some.inj z))
  -- H tracks the tables, and at most the script
  have go : ∀ H : Hp, (∀ p ∈ cs, H p.2 = some (.tbl #[])) → SqL K H a (ns.map V.int) → HOk P w H s.heap → (∀ b u, H b = some u → b ∈ cs.map (·.2) ∨ (b = a ∧ K.lookup a = none ∧ ∃ o xs, u = .frz o (.lst xs))) →
      codeAny (model P w) callerA (.call (.ref fa) ⟨[.ref a], []⟩) (fun r s' => r = .ok (.ret (.bool true)) ∧ OldK s.heap s'.heap ∧ s'.os = s.os ∧ AllBare s'.gens) s := by
    intro H tabs seq hok lone
    have off : ∀ {b : Addr} {o : Obj}, s.heap.get? b = some o → (∀ ws n, o.data ≠ .seq ws n) → o.data ≠ .fields #[] → H b = none := fun {b o} e h1 h2 => by
      cases q : H b with
      | none => rfl
      | some u =>
        rcases lone b u q with h | ⟨rfl, _⟩
        · rw [tabAt b h] at e
          cases e
          exact absurd rfl h2
        · rw [ha] at e
          cases e
          exact absurd rfl (h1 _ _)
    have stay : ∀ {b : Addr} {m : Str → Option Value}, s.heap.Ns b m → (hidT s.heap H).Ns b m := by
      rintro b m ⟨o, es, ep, ho, hd, r⟩
      refine ⟨o, es, ep, hidT_get ho (off ho (fun ws n z => ?_) fun z => ?_), hd, r⟩
      · rw [hd] at z; cases z
      · rw [hd] at z; cases z
    have kin : K.In (hidT s.heap H) := fun b o hk => by
      refine hidT_get (KX b o hk) ?_
      cases q : H b with
      | none => rfl
      | some u =>
        rcases lone b u q with h | ⟨e, n, _⟩
        · obtain ⟨p, hp, e⟩ := List.mem_map.mp h
          rw [← e, nT p hp] at hk
          cases hk
        · rw [e, n] at hk
          cases hk
    have sysB : SysB (hidT s.heap H) := by
      obtain ⟨mm, hmm⟩ := sys
      obtain ⟨ob, _, _, ho, _⟩ := stay hmm
      exact ⟨ob, ho⟩
    have mod : Mod K mg (hidT s.heap H) := ⟨kin, stay hm, ⟨mb, stay hb, hbb⟩, by obtain ⟨mc, h1, h2⟩ := lim; exact ⟨mc, stay h1, h2⟩⟩
    have TB : ∀ p ∈ cs, GxR.TabB (hidT s.heap H) mg p.1 p.2 := fun p hp => by
      have tp := hT p hp
      refine ⟨?_, ?_, fun z => ?_⟩
      · obtain ⟨o, us, fl, tf, gs, tg, nf, tx, tt, e1, c1, d1, r3, rest⟩ := C p hp
        refine ⟨o, us, fl, tf, gs, tg, nf, tx, tt, hidT_get e1 (off e1 (fun ws n z => ?_) fun z => ?_), c1, d1, r3, rest⟩
        · rw [d1] at z; cases z
        · rw [d1] at z
          cases z
          simp at r3
      · obtain ⟨bm, ob, b1, b2, b3, b4, b5, b6⟩ := hbm
        refine ⟨bm, ob, b1, b2, fun q => ?_, fun q => ?_, hidT_get b3 (off b3 (fun ws n z => ?_) fun z => ?_), b4, b5, b6⟩
        · obtain ⟨o, es, ep, ho, hd, _⟩ := hm
          rw [q, ho] at b3
          cases b3
          rw [hd] at b6
          cases b6
        · rw [q, tp] at b3
          cases b3
          cases b6
        · rw [b6] at z; cases z
        · rw [b6] at z; cases z
      · obtain ⟨o, es, ep, ho, hd, _⟩ := hm
        rw [z, tp] at ho
        cases ho
        cases hd
    have none0 : ∀ b : Addr, b ∉ frs [] := fun b => List.not_mem_nil
    have e0 : Env0 P w K mg (hidT s.heap H) callerA [] s H := ⟨rfl, mod, fun _ _ => of_hidT, by rw [hidT_size] <;> exact Nat.le_refl _, trivial, fun b hb => absurd hb (none0 b), hok, .of_eq hg⟩
    refine codeAny_mono (F _ kin (stay hm) sysB TB s H ⟨[.ref a], []⟩ [.ref a] [.ref a] _ rfl e0 (bind _ _) (.cons rfl .nil) (hsp H tabs seq)) ?_
    intro r s' h
    match r, h with
    | .error e, h => exact False.elim h
    | .ok .next, h => exact False.elim h
    | .ok .brk, h => exact False.elim h
    | .ok .cont, h => exact False.elim h
    | .ok (.ret u), ⟨v, H', os, bare, un, hok', rv, e⟩ =>
      have e : v = .bl true := e
      subst e
      obtain rfl : u = Value.bool true := rv
      have kept : ∀ b o, b ∉ cs.map (·.2) → s.heap.get? b = some o → s'.heap.get? b = some o := fun b o nb hb => by
        cases z : H b with
        | none => exact un.keep b o hb z (none0 b) List.not_mem_nil
        | some u =>
          rcases lone b u z with h | ⟨_, _, ob, xs, rfl⟩
          · exact absurd h nb
          · have h1 := (hok b _ z).1
            rw [hb] at h1
            cases h1
            exact (hok' b _ (un.frzs b _ _ z)).1
      have grown : ∀ p ∈ cs, ∃ more : Array Value, s'.heap.get? p.2 = some { cls := .none, data := .fields more } := fun p hp => by
        obtain ⟨more, z⟩ := un.tbls p.2 #[] (tabs p hp)
        exact ⟨_, hok' p.2 _ z⟩
      refine ⟨rfl, ⟨fun b o hb => ?_, fun b o hb => ?_⟩, os, bare⟩
      · by_cases h : b ∈ cs.map (·.2)
        · obtain ⟨p, hp, rfl⟩ := List.mem_map.mp h
          obtain ⟨more, hm⟩ := grown p hp
          rw [hT p hp] at hb
          cases hb
          exact .inr (.inl ⟨((C p hp).tab (hT p hp)).isCodeTable, rfl, #[], more, rfl, by rw [Array.empty_append]; exact hm⟩)
        · exact .inl (kept b o h hb)
      · by_cases h : b ∈ cs.map (·.2)
        · obtain ⟨p, hp, rfl⟩ := List.mem_map.mp h
          obtain ⟨more, hm⟩ := grown p hp
          exact ⟨_, hm⟩
        · exact ⟨o, kept b o h hb⟩
  have len := hi.length
  let tab0 : Hp := fun b => if b ∈ cs.map (·.2) then some (.tbl #[]) else none
  have okT : ∀ b, b ∈ cs.map (·.2) → ObjOk P w tab0 s.heap b (.tbl #[]) := fun b h => tabAt b h
  cases hk : K.lookup a with
  | some o =>
    have z := KX a o hk
    rw [ha] at z
    cases z
    refine go tab0 (fun p hp => if_pos (inT p hp)) (.inr ⟨_, vs.toArray, _, hk, rfl, rfl, rfl, ?_, by simpa using vals_ints hi⟩) (fun b u z => ?_) fun b u z => ?_
    · simpa [len] using hl
    · by_cases h : b ∈ cs.map (·.2)
      · cases (if_pos h).symm.trans z
        exact tabAt b h
      · cases (if_neg h).symm.trans z
    · by_cases h : b ∈ cs.map (·.2)
      · exact .inl h
      · cases (if_neg h).symm.trans z
  | none =>
    let S : HO := .frz { cls := .type "list", data := .seq vs.toArray } (.lst (ns.map V.int))
    refine go (fun b => if b = a then some S else tab0 b) (fun p hp => ?_) (.inl (.inr ⟨{ cls := .type "list", data := .seq vs.toArray }, if_pos rfl⟩)) (fun b u z => ?_) fun b u z => ?_
    · exact (if_neg fun (e : p.2 = a) => noTa (e ▸ inT p hp)).trans (if_pos (inT p hp))
    · by_cases e : b = a
      · cases (if_pos e).symm.trans z
        subst e
        exact ⟨ha, by simpa using hl, vs, _, vals_ints hi, ha⟩
      · have z := (if_neg e).symm.trans z
        by_cases h : b ∈ cs.map (·.2)
        · cases (if_pos h).symm.trans z
          exact tabAt b h
        · cases (if_neg h).symm.trans z
    · by_cases e : b = a
      · exact .inr ⟨e, hk, _, _, (Option.some.inj ((if_pos e).symm.trans z)).symm⟩
      · have z := (if_neg e).symm.trans z
        by_cases h : b ∈ cs.map (·.2)
        · exact .inl h
        · cases (if_neg h).symm.trans z
end
/-- no table of code objects is written out -/
def isTab (o : Obj) : Bool := match o.cls, o.data with
  | .none, .fields _ => true
  | _, _ => false
theorem find_mem {a : Addr} {o : Obj} : ∀ {l : List (Addr × Obj)}, l.lookup a = some o → (a, o) ∈ l
  | [], h => by cases h
  | (b, u) :: r, h => by
    have h : (match a == b with | true => some u | false => r.lookup a) = some o := h
    cases q : (a == b) with
    | true =>
      rw [q] at h
      cases h
      rw [beq_iff_eq.mp q]
      exact List.mem_cons_self
    | false =>
      rw [q] at h
      exact List.mem_cons_of_mem _ (find_mem h)
theorem no_tab {K : PySem.W.Frag} {h : Heap} {b : Addr} (X : K.In h) (hn : (K.all fun p => !isTab p.2) = true) (e : h.get? b = some { cls := .none, data := .fields #[] }) : K.lookup b = none := by
  cases z : K.lookup b with
  | none => rfl
  | some o =>
    have e1 := X _ _ z
    rw [e] at e1
    cases e1
    have := List.all_eq_true.mp hn _ (find_mem z)
    cases this
/-- a def whose table of code objects is empty at the head -/
theorem funC_tab {q : Program} {loose : List Str} {mean : ExcName → Option Value} {K : PySem.W.Frag} {h : Heap} {mg mb : Str → Option Value} {x : Str} {st : Stmt} {f : Addr} {fd : FuncData} (T : Top q loose mean mg mb h) (X : K.In h) (F : Fun K x x st f fd) (m : mg x = some (.ref f))
    (hr : ((recsOf q).any fun d => d.name == x) = true) : ∃ c pt, FunD K x x st f fd c ∧ PySem.W.CodeHd h c pt ∧ h.get? pt = some { cls := .none, data := .fields #[] } := by
  obtain ⟨d, hd, e⟩ := List.any_eq_true.mp hr
  obtain ⟨a, o, fd2, c, pt, h1, h2, h3, h4, h5, h6⟩ := T.tab d hd
  have e : d.name = x := beq_iff_eq.mp e
  rw [e, m] at h1
  cases h1
  obtain ⟨oc, od, kV, doc, pm, an, cdv, ct, osl, rfl, lk, hcd⟩ := F.ex
  have z := X _ _ lk
  rw [h2] at z
  cases z
  cases h3
  have h4 : cdv = .ref c := h4
  subst h4
  exact ⟨c, pt, ⟨⟨oc, od, kV, doc, pm, an, ct, osl, rfl, lk, hcd⟩, F.kp⟩, .of h5 h6, h6.2⟩
/-- what is known at the head's heap -/
def TopAt (l : PySem.W.OpenLaw) (w : World) (K : PySem.W.Frag) (n : Nat) (x : Str) (mg : Str → Option Value) (fa : Addr) (h : Heap) : Prop :=
  ∃ (fd : FuncData) (cs : List (Addr × Addr)) (sp : Sp), (∀ p ∈ cs, h.get? p.2 = some { cls := .none, data := .fields #[] }) ∧ (∀ p ∈ cs, K.lookup p.2 = none) ∧ (∀ p ∈ cs, PySem.W.CodeHd h p.1 p.2) ∧ (∀ (s : Shared) (u : Value), BindsTo s fd ⟨[u], []⟩ [(x, u)]) ∧
    (∀ (H : Hp) (a : Addr) (ns : List Int), ns.length ≤ n → (∀ p ∈ cs, H p.2 = some (.tbl #[])) → SqL K H a (ns.map V.int) → sp [.ref a] H (fun v _ => v = .bl true) E0) ∧
    ∀ base : Heap, K.In base → base.Ns mainGlobals mg → SysB base → (∀ p ∈ cs, GxR.TabB base mg p.1 p.2) → LawAt l.prog w K mg base fa fd [x] sp
theorem walk_topT {l : PySem.W.OpenLaw} {n : Nat} {q : Program} {loose : List Str} {XP : (Str → Option Value) → Heap → Prop} {YP : World → Heap → Prop} {d : DefRec} {K : Params → PySem.W.Frag} {x : Str}
    (hn : l.most = some n) (hn2 : n ≤ sizeLine) (hdf : d.params.defaults = []) (himp : importsNone q = true) (hY : ∀ (w : World) (h : Heap), YP w h → (K w.params).In h)
    (F : ∀ (w : World) (mean : ExcName → Option Value) (mg mb : Str → Option Value) (fa : Addr) (h : Heap), (K w.params).In h → Top q (PySem.W.looseW q loose) mean mg mb h → mg d.name = some (.ref fa) → TopAt l w (K w.params) n x mg fa h) :
    PySem.W.WalkO q loose XP YP l.row.toRowW d [] (fun f vs => PySem.call f vs) := by
  refine Att.attach_callB hn hdf ?_
  intro w _ s mg mb fa _ _ _ _ a vs ns G Y _ _ _ hmg hobj hints hlen hbits hg
  obtain ⟨fd, cs, sp, hT, nT, C, hb, hsp, hF⟩ := F w _ mg mb fa _ (hY w _ Y) G.T hmg
  exact law_topT (hY w _ Y) G.T.g G.T.b G.T.builtins G.T.nolimit hg hT nT C G.T.bmain hobj hints (Nat.le_trans hlen hn2) (let ⟨mm, e, _⟩ := (G.T.seer himp).mods; ⟨mm, e⟩) hF hb fun H hH hS => hsp H a ns hlen hH hS
end Zk

set_option maxHeartbeats 4000000
/-! V51: tuple * int, also with 1. -/
namespace TM1
open PySem PySem.Spec PyProof.Rows L2
theorem tuple_mul_one (l : Addr) (items : Array Value) (n : Nat) (dd : Option Addr) (sl : Array (Option Value)) (u : Tok) :
    Meets (Builtin.«tuple.__mul__» ⟨[.ref l, .int 1 u], []⟩) (fun _ R s => s.heap.get? l = some { cls := .type "tuple", dict := dd, data := .seq items n, slots := sl } ∧
      R (.ok (.ret (Value.ref l))) s) :=
  .of_wp fun prog w A R s h => by
    obtain ⟨hp, g, d, tk, os⟩ := s
    obtain ⟨hl, h⟩ := h
    have f1 := AutoSeq1.idx_int
    have c0 : (decide ((1 : Int) < -(2 ^ 63)) || decide ((1 : Int) ≥ 2 ^ 63)) = false := by decide
    have c1 : (items.isEmpty || (1 : Int) == 1) = true := by simp
    wp_walk using wpAny_loadPart' hl
    repeat (first
      | (refine wpAny_ite_false (decide_eq_false (by rw [c0]; exact Bool.false_ne_true)) ?_; wp_walk using wpAny_loadPart' hl)
      | (refine wpAny_ite_true (decide_eq_true c1) ?_; wp_walk using wpAny_loadPart' hl))
    exact ⟨_, rfl, h⟩
end TM1
namespace Zk
open PySem PySem.Spec PyProof.Rows L2 GxR TL SX
def rRepTG (K : PySem.W.Frag) : R2 := fun x y H Q => ∃ l k xs, x = .ref l ∧ y = .int k ∧ SqT K H l xs ∧ xs ≠ [] ∧ 1 ≤ k ∧ k ≤ 1000 ∧ xs.length ≤ 1000 ∧ (k = 1 → Q (.ref l) H) ∧ ∀ p, H p = none → Q (.ref p) (upd H p (.tup (List.replicate k.toNat xs).flatten))
section
variable {X : Cx}
theorem op_repTG : OpR X (binaryOp .Mult) (rRepTG X.K) := by
  intro pins s σ H x y v u Q I rx ry h
  obtain ⟨l, k, xs, rfl, rfl, hT, hne, h1, h2, hz, q1, q⟩ := h
  by_cases hk : k = 1
  · subst hk
    cases rx
    obtain ⟨t, rfl⟩ := ry
    obtain ⟨its, r, ⟨⟨cls, dd, data, sl⟩, ho, hc, n, hd⟩, hs⟩ := I.tuple hT
    simp only at hc hd
    subst hc hd
    refine wpAny_binaryOp_repeat_ref (T := "tuple") (U := "int") (by decide) ⟨_, ho, rfl⟩ (fun s' => typeIs_int s' 1 t) noFill_tuple_mul F.fills_int_mul F.slot_int_rmul repeat_tuple F.slot_int_index.lookup
      (call_meets F.slot_int_rmul (typeIs_int s 1 t) F.entry_int_rmul (F.args_int_rmul_2 _ _) (int_rmul_tuple 1 t l its.toArray n dd sl)
        ⟨ho, rfl, ⟨_, ho, rfl⟩, call_meets F.slot_tuple_mul ⟨_, ho, rfl⟩ F.entry_tuple_mul (F.args_tuple_mul_2 _ _) (TM1.tuple_mul_one l its.toArray n dd sl t) ⟨ho, ?_⟩⟩)
    exact ⟨.ref l, H, I, rfl, q1 rfl⟩
  · exact op_repT pins s σ H _ _ v u Q I rx ry ⟨l, k, xs, rfl, rfl, hT, hne, by omega, h2, hz, q⟩
end
def gRepTG : DG2 := fun d e q => ∃ xs k, d = .tuple xs ∧ e = .int k ∧ xs ≠ [] ∧ 1 ≤ k ∧ k ≤ 1000 ∧ xs.length ≤ 1000 ∧ q (.tuple (List.replicate k.toNat xs).flatten)
theorem opS_repTG {K : PySem.W.Frag} : OpS (rRepTG K) gRepTG := fun Z H x y d e q Q nz hx hy ⟨xs, k, e1, e2, h0, h1, h2, h3, hq⟩ kk => by
  subst e1 e2
  obtain ⟨a, vs, rfl, ha, sa⟩ := sd_tup hx
  refine ⟨a, k, vs, rfl, sd_int hy, SqT.of (msk_some.mp ha).2, fun e => h0 ?_, h1, h2, by rw [sa.len]; exact h3, fun z => ?_, fun p hp => kk _ _ _ (same_new hp _) (.tup (msk_at (nz p hp)) (SdL.same (msk_new hp) (sa.rep _))) hq⟩
  · subst e
    cases sa
    rfl
  · subst z
    have e : (List.replicate (1 : Int).toNat xs).flatten = xs := by simp
    rw [e] at hq
    exact kk _ _ _ (Same.refl _) hx hq
end Zk

set_option maxHeartbeats 1000000
/-! C8: the law. -/
namespace Zk
open PySem PySem.Spec PyProof.Rows L2 GxR TL SX Pq
abbrev s_law : Stmt := top 56
theorem sc_law : FnScope ["script", "deck", "turn", "many", "states", "signs", "room", "machine", "told", "n", "less", "w", "standings", "cell", "word", "orbit", "again", "standing", "steps", "is_there"] ["script"] (defScope s_law) := ⟨rfl, rfl, rfl, by decide +kernel, rfl, by decide +kernel, by decide +kernel⟩
section
variable {P : Program} {w : World} {K : PySem.W.Frag} {mg : Str → Option Value} {base : Heap} {f c pt : Addr} {fd : FuncData} {Ta : List Addr}
theorem ifS_pos {rt : DRT} {r1 r2 : DRS} {K : DEnds} {E : DEnv} (ht : ∀ k : Bool → Prop, k true → rt E k) (h : r1 K E) : rIfS rt r1 r2 K E := ht _ (iteT h)
theorem ifS_neg {rt : DRT} {r1 r2 : DRS} {K : DEnds} {E : DEnv} (ht : ∀ k : Bool → Prop, k false → rt E k) (h : r2 K E) : rIfS rt r1 r2 K E := ht _ (iteF h)
theorem atI_last {o : Nat → St3} {k : Nat} (h : 1 ≤ k) : L2.atI (orbL o k) (-1) = some (tD3 (o (k - 1))) := by
  have hl := orbL_len o k
  unfold L2.atI L2.ixN
  rw [if_neg (by omega), if_pos (by omega)]
  show (orbL o k)[_]? = _
  have e : ((-1 : Int) + ((orbL o k).length : Nat)).toNat = k - 1 := by omega
  first | rw [e] | simp only [e]
  unfold orbL
  rw [List.getElem?_map, List.getElem?_range (by omega)]
  rfl
theorem bool_of {b : Bool} {p : Prop} [Decidable p] (h : b = true ↔ p) : b = decide p := by
  cases b with
  | true => exact (decide_eq_true (h.mp rfl)).symm
  | false => exact (decide_eq_false fun hp => by have := h.mpr hp; cases this).symm
theorem par_one {rs : DRP} {K : DEnds} {E : DEnv} {i j : Nat} (a b : DV) (hr : ∀ q' : List DV → Prop, q' [a, b] → rs E q') (hi : i < E.length) (hj : j < E.length) (h : K.nx ((E.set i a).set j b)) : rPar2 i j rs K E := hr _ ⟨a, b, rfl, hi, hj, h⟩
theorem cbeq (a b : Nat) : ((a : Int) == (b : Int)) = decide (a = b) := by
  by_cases h : a = b
  · rw [decide_eq_true h, h]
    simp
  · rw [decide_eq_false h]
    exact beq_eq_false_iff_ne.mpr (by omega)
/-- the rooms of the first part -/
structure Room1 (ps : List (Int × Int)) : Prop where
  ok : PolyOk ps
  p0 : ∃ c tl, ps = (0, c) :: tl
  sm : Small ps
  v : ∀ n : Nat, n ≤ 6 → 1 ≤ polyV ps n ∧ polyV ps n ≤ 1000
  z : polyV ps 0 ≤ 30
theorem room1_of {ps : List (Int × Int)} (h1 : PolyOk ps) (h2 : ∃ c tl, ps = (0, c) :: tl) (h3 : ∀ n ∈ [0, 1, 2, 3, 4, 5, 6], 1 ≤ polyV ps n ∧ polyV ps n ≤ 1000) (h4 : ∀ p ∈ ps, p.2 ≤ 100) (h5 : ps.length ≤ 4) (h6 : polyV ps 0 ≤ 30) : Room1 ps :=
  ⟨h1, h2, ⟨h5, h4⟩, fun n hn => h3 n (by simp; omega), h6⟩
theorem ok_law (SB : SysB base) (F : Fun K "law" "law" s_law f fd) (T : Blt mg) (D0 : CallD P w K mg base "_law_deck" 1 ["script"] (spNewDeck K kn)) (C0 : CallD P w K mg base "_law_pick" 2 ["deck", "some"] (spDk Ta kn RPick)) (C1 : CallD P w K mg base "_law_draw" 1 ["deck", "many"] (spDk Ta kn RDraw))
    (C2 : CallD P w K mg base "_law_value" 1 ["poly", "n"] (spD' Ta RLV)) (C3 : CallD P w K mg base "_law_lg" 1 ["many"] (spD' Ta RLg)) (C4 : CallD P w K mg base "_law_depth" 2 ["machine"] (spF Ta RLDepth)) (C5 : CallD P w K mg base "_law_playable" 5 ["deck", "most", "standings"] (spDk Ta kn RPlay)) (C6 : CallD P w K mg base "_law_first" 2 ["machine", "word"] (spD' Ta RFirst))
    (C7 : CallD P w K mg base "_law_orbit" 2 ["machine", "standing", "most"] (spD' Ta ROrb)) (C8 : CallD P w K mg base "first_standing" 9 ["machine", "word"] (spD' Ta RFirst)) (C9 : CallD P w K mg base "next_standing" 9 ["machine", "standing"] (spD' Ta RNext)) (Ca : CallD P w K mg base "value_at" 5 ["poly", "number"] (spD' Ta RVal)) (Cb : CallD P w K mg base "accepts" 10 ["machine", "word"] (spD' Ta RAcc))
    (Cc : CallD P w K mg base "depth" 8 ["machine"] (spD' Ta RDepth)) (K1 : CallK P w K mg base "depth" 8 ["machine"] ["machine"] kg1 kv1 (spD' Ta RDepth)) :
    LawAt P w K mg base f fd ["script"] (spLaw K Ta) := by
  refine law_at (N := ["script", "deck", "turn", "many", "states", "signs", "room", "machine", "told", "n", "less", "w", "standings", "cell", "word", "orbit", "again", "standing", "steps", "is_there"]) F sc_law (fun cdv s H vs Q h => ?_)
  obtain ⟨a, ns, rfl, hS, hl, tb, q⟩ := h
  obtain ⟨_, _, G_law_deck, b_law_deck, k_law_deck, m_law_deck⟩ := D0.ex
  obtain ⟨_, _, G_law_pick, b_law_pick, k_law_pick, m_law_pick⟩ := C0.ex
  obtain ⟨_, _, G_law_draw, b_law_draw, k_law_draw, m_law_draw⟩ := C1.ex
  obtain ⟨_, _, G_law_value, b_law_value, k_law_value, m_law_value⟩ := C2.ex
  obtain ⟨_, _, G_law_lg, b_law_lg, k_law_lg, m_law_lg⟩ := C3.ex
  obtain ⟨_, _, G_law_depth, b_law_depth, k_law_depth, m_law_depth⟩ := C4.ex
  obtain ⟨_, _, G_law_playable, b_law_playable, k_law_playable, m_law_playable⟩ := C5.ex
  obtain ⟨_, _, G_law_first, b_law_first, k_law_first, m_law_first⟩ := C6.ex
  obtain ⟨_, _, G_law_orbit, b_law_orbit, k_law_orbit, m_law_orbit⟩ := C7.ex
  obtain ⟨_, _, G_first_standing, b_first_standing, k_first_standing, m_first_standing⟩ := C8.ex
  obtain ⟨_, _, G_next_standing, b_next_standing, k_next_standing, m_next_standing⟩ := C9.ex
  obtain ⟨_, _, G_value_at, b_value_at, k_value_at, m_value_at⟩ := Ca.ex
  obtain ⟨_, _, G_accepts, b_accepts, k_accepts, m_accepts⟩ := Cb.ex
  obtain ⟨_, _, G_depth, b_depth, bw_depth, k_depth, m_depth⟩ := K1.ex
  have kd_depth := kdata1
  have hr : Room 70 (topX P w K mg base ["script", "deck", "turn", "many", "states", "signs", "room", "machine", "told", "n", "less", "w", "standings", "cell", "word", "orbit", "again", "standing", "steps", "is_there"] "law" (defScope s_law) f cdv s H).A := ⟨rfl, (by show callerA.depth + 1 + 3 * 70 + 5 < recursionLimit; decide), (by show callerA.units + 3 + 16 * 70 + 200 < cLine; decide)⟩
  have hu : (topX P w K mg base ["script", "deck", "turn", "many", "states", "signs", "room", "machine", "told", "n", "less", "w", "standings", "cell", "word", "orbit", "again", "standing", "steps", "is_there"] "law" (defScope s_law) f cdv s H).A.units + 110 < cLine := by have := hr.un; omega
  refine ⟨_, (pss_cons (ps_set (i := 1) sc_law.nd rfl (Or.inl rfl) (pe_call G_law_deck (hr.mono (by omega)) rfl m_law_deck k_law_deck b_law_deck .nil pass0 (pa_cons (pv 0) pa_nil)))
    (dss_cons (ds_for PassesOwn.never rfl (di_range (by rfl) T.range dx_int) (pg_name (i := 2) sc_law.nd rfl (Or.inl rfl)) (gs_n 2) (dss_cons (ds_par (ps_par (i := 3) (j := 4) rfl sc_law.nd rfl rfl (by decide) rfl rfl (dp_v (dx_callK (i := 1) G_law_pick (hr.mono (by omega)) rfl m_law_pick k_law_pick b_law_pick (pv 1) (da_cons (dx_lst (da_cons dx_int (da_cons dx_int (da_cons dx_int (da_cons dx_int (da_cons dx_int (da_cons dx_int (da_cons dx_int (da_cons dx_int (da_cons dx_int (da_cons dx_int da_nil))))))))))) da_nil)) (dp_v (dx_callK (i := 1) G_law_pick (hr.mono (by omega)) rfl m_law_pick k_law_pick b_law_pick (pv 1) (da_cons (dx_lst (da_cons dx_int (da_cons dx_int (da_cons dx_int (da_cons dx_int (da_cons dx_int (da_cons dx_int (da_cons dx_int (da_cons dx_int (da_cons dx_int da_nil)))))))))) da_nil)) dp_nil)) (by rfl)))
    (dss_cons (ds_of (ps_set (i := 5) sc_law.nd rfl (Or.inl rfl) (dx_sl dx_str do_n (do_s (dx_var 3)))) (fun _ _ _ h => h))
    (dss_cons (ds_of (ps_set (i := 6) sc_law.nd rfl (Or.inl rfl) (dx_callK (i := 1) G_law_pick (hr.mono (by omega)) rfl m_law_pick k_law_pick b_law_pick (pv 1) (da_cons (dx_lst (da_cons (dx_tup (da_cons (dx_tup (da_cons dx_int (da_cons dx_int da_nil))) da_nil)) (da_cons (dx_tup (da_cons (dx_tup (da_cons dx_int (da_cons dx_int da_nil))) (da_cons (dx_tup (da_cons dx_int (da_cons dx_int da_nil))) da_nil))) (da_cons (dx_tup (da_cons (dx_tup (da_cons dx_int (da_cons dx_int da_nil))) (da_cons (dx_tup (da_cons dx_int (da_cons dx_int da_nil))) da_nil))) (da_cons (dx_tup (da_cons (dx_tup (da_cons dx_int (da_cons dx_int da_nil))) (da_cons (dx_tup (da_cons dx_int (da_cons dx_int da_nil))) (da_cons (dx_tup (da_cons dx_int (da_cons dx_int da_nil))) da_nil)))) (da_cons (dx_tup (da_cons (dx_tup (da_cons dx_int (da_cons dx_int da_nil))) da_nil)) da_nil)))))) da_nil))) (fun _ _ _ h => h))
    (dss_cons (ds_of (ps_set (i := 7) sc_law.nd rfl (Or.inl rfl) (dx_tup (da_cons dx_str (da_cons (dx_var 5) (da_cons (dx_op op_repTG opS_repTG (dx_tup (da_cons (dx_tupleQ (dq_data (dx_op op_rep opS_repL (dx_lst (da_cons (dx_tup (da_cons dx_int (da_cons dx_str (da_cons dx_int da_nil)))) da_nil)) (dx_var 3))) (by rfl) T.tuple) da_nil)) (dx_var 4)) (da_cons (dx_var 6) da_nil)))))) (fun _ _ _ h => h))
    (dss_cons (ds_of (ps_set (i := 8) sc_law.nd rfl (Or.inl rfl) (dx_if (dt_cmp op_gt (opS_bool _) (dx_var 2) dx_int (nomark _)) (dx_call G_depth (hr.mono (by omega)) rfl m_depth k_depth b_depth (da_cons (dx_var 7) da_nil)) (dx_callW G_depth (hr.mono (by omega)) rfl m_depth k_depth bw_depth kd_depth (dk_cons (dx_var 7) dk_nil)))) (fun _ _ _ h => h))
    (dss_cons (ds_if (dt_cmp op_ne opS_ne (dx_callB (call_repr SB rfl hu) callS_repr (by rfl) T.repr (by decide +kernel) (da_cons (dx_var 8) da_nil)) (dx_callB (call_repr SB rfl hu) callS_repr (by rfl) T.repr (by decide +kernel) (da_cons (dx_callF G_law_depth (hr.mono (by omega)) rfl m_law_depth k_law_depth b_law_depth (da_cons (dx_var 7) da_nil)) da_nil)) (nomark _)) (dss_one (ds_ret dx_bl)) dss_nil)
    (dss_cons (ds_of (ps_set (i := 9) sc_law.nd rfl (Or.inl rfl) (dx_callK (i := 1) G_law_draw (hr.mono (by omega)) rfl m_law_draw k_law_draw b_law_draw (pv 1) (da_cons dx_int da_nil))) (fun _ _ _ h => h))
    (dss_cons (ds_for PassesOwn.never rfl (di_range (by rfl) T.range dx_int) (pg_name (i := 10) sc_law.nd rfl (Or.inl rfl)) (gs_n 10) (dss_one (ds_of (ps_set (i := 9) sc_law.nd rfl (Or.inl rfl) (dx_if (PW.pt (dw_and (dt_cmp op_gt (opS_bool _) (dx_var 9) dx_int (nomark _)) (dw_and1 (dt_cmp op_gt (opS_bool _) (dx_call G_law_value (hr.mono (by omega)) rfl m_law_value k_law_value b_law_value (da_cons (dx_var 6) (da_cons (dx_var 9) da_nil))) dx_int (nomark _))))) (dx_op op_sub (opS_int _) (dx_var 9) dx_int) (dx_var 9))) (fun _ _ _ h => h))))
    (dss_cons (ds_of (ps_set (i := 11) sc_law.nd rfl (Or.inl rfl) (dx_call G_law_value (hr.mono (by omega)) rfl m_law_value k_law_value b_law_value (da_cons (dx_var 6) (da_cons (dx_var 9) da_nil)))) (fun _ _ _ h => h))
    (dss_cons (ds_if (dt_cmp op_ne opS_ne (dx_call G_value_at (hr.mono (by omega)) rfl m_value_at k_value_at b_value_at (da_cons (dx_var 8) (da_cons (dx_var 9) da_nil))) (dx_op op_add (opS_int _) (dx_op op_mul (opS_intC _ _) (dx_op op_add (opS_int _) (dx_call G_law_lg (hr.mono (by omega)) rfl m_law_lg k_law_lg b_law_lg (da_cons (dx_var 3) da_nil)) dx_int) (dx_var 11)) (dx_call G_law_lg (hr.mono (by omega)) rfl m_law_lg k_law_lg b_law_lg (da_cons (dx_op op_add (opS_int _) (dx_var 4) dx_int) da_nil))) (nomark _)) (dss_one (ds_ret dx_bl)) dss_nil)
    (dss_cons (ds_of (ps_set (i := 12) sc_law.nd rfl (Or.inl rfl) (dx_op op_mul (opS_intC _ _) (dx_op op_add (opS_int _) (dx_var 4) dx_int) (dx_var 11))) (fun _ _ _ h => h))
    (dss_cons (ds_for PassesOwn.never rfl (di_range (by rfl) T.range (dx_var 11)) (pg_name (i := 13) sc_law.nd rfl (Or.inl rfl)) (gs_n 13) (dss_one (ds_of (ps_set (i := 12) sc_law.nd rfl (Or.inl rfl) (dx_op op_mul (opS_intC _ _) (dx_var 12) (dx_var 3))) (fun _ _ _ h => h))))
    (dss_one (ds_if (dt_cmp op_lt (opS_bool _) (dx_op op_shlW (opS_intC _ _) dx_int (dx_call G_value_at (hr.mono (by omega)) rfl m_value_at k_value_at b_value_at (da_cons (dx_var 8) (da_cons (dx_var 9) da_nil)))) (dx_var 12) (nomark _)) (dss_one (ds_ret dx_bl)) dss_nil)))))))))))))))
    (dss_cons (ds_asg (ps_asg (dx_callK (i := 1) G_law_playable (hr.mono (by omega)) rfl m_law_playable k_law_playable b_law_playable (pv 1) (da_cons dx_int (da_cons dx_int da_nil))) (pg_tup (n := 2) (by rfl) (pgs_cons (pg_name (i := 7) sc_law.nd rfl (Or.inl rfl)) (pgs_cons (pg_name (i := 14) sc_law.nd rfl (Or.inl rfl)) pgs_nil)))) (gs_tup (gss_cons (gs_n 7) (gss_cons (gs_n 14) gss_nil))))
    (dss_cons (ds_asg (ps_asg (dx_call G_law_orbit (hr.mono (by omega)) rfl m_law_orbit k_law_orbit b_law_orbit (da_cons (dx_var 7) (da_cons (dx_call G_law_first (hr.mono (by omega)) rfl m_law_first k_law_first b_law_first (da_cons (dx_var 7) (da_cons (dx_var 14) da_nil))) (da_cons dx_int da_nil)))) (pg_tup (n := 2) (by rfl) (pgs_cons (pg_name (i := 15) sc_law.nd rfl (Or.inl rfl)) (pgs_cons (pg_name (i := 16) sc_law.nd rfl (Or.inl rfl)) pgs_nil)))) (gs_tup (gss_cons (gs_n 15) (gss_cons (gs_n 16) gss_nil))))
    (dss_cons (ds_par (ps_par (i := 17) (j := 18) rfl sc_law.nd rfl rfl (by decide) rfl rfl (dp_v (dx_call G_first_standing (hr.mono (by omega)) rfl m_first_standing k_first_standing b_first_standing (da_cons (dx_var 7) (da_cons (dx_var 14) da_nil))) (dp_v dx_int dp_nil)) (by rfl)))
    (dss_cons (ds_for PassesOwn.never rfl (di_range (by rfl) T.range (dx_if (dt_cmp op_lt (opS_bool _) (dx_callB call_len callS_len (by rfl) T.len PySem.boot_len (da_cons (dx_var 15) da_nil)) dx_int (nomark _)) (dx_callB call_len callS_len (by rfl) T.len PySem.boot_len (da_cons (dx_var 15) da_nil)) dx_int)) (pg_name (i := 2) sc_law.nd rfl (Or.inl rfl)) (gs_n 2) (dss_one (ds_if (dt_cmp op_ne opS_ne (dx_ix ix_A opS_ix (dx_var 17) dx_int (fun _ _ => rfl)) (dx_callB call_len callS_len (by rfl) T.len PySem.boot_len (da_cons (dx_ix ix_A opS_ix (dx_var 7) dx_int (fun _ _ => rfl)) da_nil)) (nomark _)) (dss_one (ds_par (ps_par (i := 17) (j := 18) rfl sc_law.nd rfl rfl (by decide) rfl rfl (dp_v (dx_call G_next_standing (hr.mono (by omega)) rfl m_next_standing k_next_standing b_next_standing (da_cons (dx_var 7) (da_cons (dx_var 17) da_nil))) (dp_v (dx_op op_add (opS_int _) (dx_var 18) dx_int) dp_nil)) (by rfl)))) dss_nil)))
    (dss_cons (ds_of (ps_set (i := 19) sc_law.nd rfl (Or.inl rfl) (dx_cmp op_eq opS_eq (dx_ix ix_A opS_ix (dx_ix ix_A opS_ix (dx_var 15) (dx_neg dx_int) (fun _ _ => rfl)) dx_int (fun _ _ => rfl)) (dx_callB call_len callS_len (by rfl) T.len PySem.boot_len (da_cons (dx_ix ix_A opS_ix (dx_var 7) dx_int (fun _ _ => rfl)) da_nil)) (nomark _))) (fun _ _ _ h => h))
    (dss_cons (ds_if (PW.pt (dw_or (PW.pt (dw_and (dt_cmp op_lt (opS_bool _) (dx_callB call_len callS_len (by rfl) T.len PySem.boot_len (da_cons (dx_var 15) da_nil)) dx_int (nomark _)) (dw_and1 (dt_cmp op_ne opS_ne (dx_cmp op_eq opS_eq (dx_ix ix_A opS_ix (dx_var 17) dx_int (fun _ _ => rfl)) (dx_callB call_len callS_len (by rfl) T.len PySem.boot_len (da_cons (dx_ix ix_A opS_ix (dx_var 7) dx_int (fun _ _ => rfl)) da_nil)) (nomark _)) (dx_var 19) (nomark _))))) (dw_or1 (dt_cmp op_gt (opS_bool _) (dx_var 18) (dx_op op_shlW (opS_intC _ _) dx_int (dx_call G_value_at (hr.mono (by omega)) rfl m_value_at k_value_at b_value_at (da_cons (dx_call G_depth (hr.mono (by omega)) rfl m_depth k_depth b_depth (da_cons (dx_var 7) da_nil)) (da_cons (dx_callB call_len callS_len (by rfl) T.len PySem.boot_len (da_cons (dx_var 14) da_nil)) da_nil)))) (nomark _))))) (dss_one (ds_ret dx_bl)) dss_nil)
    (dss_one (ds_ret (dx_cmp op_eq opS_eq (dx_callB (call_repr SB rfl hu) callS_repr (by rfl) T.repr (by decide +kernel) (da_cons (dx_call G_accepts (hr.mono (by omega)) rfl m_accepts k_accepts b_accepts (da_cons (dx_var 7) (da_cons (dx_var 14) da_nil))) da_nil)) (dx_callB (call_repr SB rfl hu) callS_repr (by rfl) T.repr (by decide +kernel) (da_cons (dx_var 19) da_nil)) (nomark _)))))))))))), ?_⟩
  refine ⟨_, rfl, a, ns, rfl, hS, hl, fun p lf H1 s1 hp hlf dok => ?_⟩
  refine law_in 18 rfl rfl s1 tb dok q ?_
  have nn : lawE 18 = [.no, .deck, .no, .no, .no, .no, .no, .no, .no, .no, .no, .no, .no, .no, .no, .no, .no, .no, .no, .no] := rfl
  rw [nn]
  have hsz : sizeLine = 16777216 := sizeLine_eq
  refine seq_for (intsD 0 6) (fun _ E => ∃ e2 e3 e4 e5 e6 e7 e8 e9 e10 e11 e12 e13 : DV, E = [.no, .deck, e2, e3, e4, e5, e6, e7, e8, e9, e10, e11, e12, e13, .no, .no, .no, .no, .no, .no]) (rng 6) ⟨_, _, _, _, _, _, _, _, _, _, _, _, rfl⟩ ?_ ?_
  · rintro i0 d E' hd ⟨e2, e3, e4, e5, e6, e7, e8, e9, e10, e11, e12, e13, rfl⟩
    obtain ⟨_, rfl⟩ := ints_get.mp hd
    generalize hdd : PyData.int (0 + (i0 : Int)) = d
    refine ⟨by simp, ?_⟩
    simp only [List.set_cons_succ, List.set_cons_zero]
    refine seq_parP (fun a b => ∃ m s : Nat, a = .d (.int m) ∧ b = .d (.int s) ∧ 2 ≤ m ∧ m ≤ 26 ∧ 1 ≤ s ∧ s ≤ 24) (fun q' h => ?_) (by simp) (by simp) ?_
    · simp [and_assoc]
      refine ⟨by omega, pick_lst (by simp) (by simp) fun x hx => ⟨by omega, pick_lst (by simp) (by simp) fun y hy => ?_⟩⟩
      have hx' : ∃ m : Nat, x = .int m ∧ 2 ≤ m ∧ m ≤ 26 := by
        simp at hx
        rcases hx with rfl | rfl | rfl | rfl | rfl | rfl | rfl | rfl | rfl | rfl
        · exact ⟨2, rfl, by omega, by omega⟩
        · exact ⟨3, rfl, by omega, by omega⟩
        · exact ⟨4, rfl, by omega, by omega⟩
        · exact ⟨5, rfl, by omega, by omega⟩
        · exact ⟨8, rfl, by omega, by omega⟩
        · exact ⟨9, rfl, by omega, by omega⟩
        · exact ⟨16, rfl, by omega, by omega⟩
        · exact ⟨17, rfl, by omega, by omega⟩
        · exact ⟨26, rfl, by omega, by omega⟩
        · exact ⟨25, rfl, by omega, by omega⟩
      have hy' : ∃ m : Nat, y = .int m ∧ 1 ≤ m ∧ m ≤ 24 := by
        simp at hy
        rcases hy with rfl | rfl | rfl | rfl | rfl | rfl | rfl | rfl | rfl
        · exact ⟨1, rfl, by omega, by omega⟩
        · exact ⟨2, rfl, by omega, by omega⟩
        · exact ⟨3, rfl, by omega, by omega⟩
        · exact ⟨6, rfl, by omega, by omega⟩
        · exact ⟨7, rfl, by omega, by omega⟩
        · exact ⟨14, rfl, by omega, by omega⟩
        · exact ⟨15, rfl, by omega, by omega⟩
        · exact ⟨24, rfl, by omega, by omega⟩
        · exact ⟨23, rfl, by omega, by omega⟩
      obtain ⟨m, rfl, m2, m26⟩ := hx'
      obtain ⟨s', rfl, t1, t2⟩ := hy'
      exact h _ _ ⟨m, s', rfl, rfl, m2, m26, t1, t2⟩
    rintro _ _ ⟨m, s', rfl, rfl, m2, m26, t1, t24⟩
    simp only [List.set_cons_succ, List.set_cons_zero]
    refine seq_set1 (.str (cutS alphaS none (some (m : Int)))) (fun q' h => ?_) (by simp) ?_
    · have h' : q' (.str (cutS "abcdefghijklmnopqrstuvwxyz" none (some (m : Int)))) := h
      simp
      exact ⟨by decide, h'⟩
    simp only [List.set_cons_succ, List.set_cons_zero]
    refine seq_setP (fun d => ∃ ps, d = polyD ps ∧ Room1 ps) (fun q' h => ?_) (by simp) ?_
    · simp [and_assoc]
      refine ⟨by omega, by omega, by omega, by omega, by omega, by omega, by omega, pick_lst (by simp) (by simp) fun x hx => ?_⟩
      have go : ∀ ps, Room1 ps → x = polyD ps → q' x := fun ps a e => h _ ⟨ps, e, a⟩
      simp at hx
      rcases hx with rfl | rfl | rfl | rfl | rfl
      · exact go [(0, 1)] (room1_of ⟨by simp, by simp, by simp, by simp⟩ ⟨_, _, rfl⟩ (by decide) (by decide) (by simp) (by decide)) rfl
      · exact go [(0, 3), (1, 1)] (room1_of ⟨by simp, by simp, by simp, by simp⟩ ⟨_, _, rfl⟩ (by decide) (by decide) (by simp) (by decide)) rfl
      · exact go [(0, 1), (2, 2)] (room1_of ⟨by simp, by simp, by simp, by simp⟩ ⟨_, _, rfl⟩ (by decide) (by decide) (by simp) (by decide)) rfl
      · exact go [(0, 2), (1, 1), (3, 4)] (room1_of ⟨by simp, by simp, by simp, by simp⟩ ⟨_, _, rfl⟩ (by decide) (by decide) (by simp) (by decide)) rfl
      · exact go [(0, 30)] (room1_of ⟨by simp, by simp, by simp, by simp⟩ ⟨_, _, rfl⟩ (by decide) (by decide) (by simp) (by decide)) rfl
    rintro _ ⟨ps, rfl, ro⟩
    simp only [List.set_cons_succ, List.set_cons_zero]
    have M := mach0 m2 m26 t1 t24 ro.ok ro.p0
    refine seq_set1 (.tuple [.str "machine", .str (cutS alphaS none (some (m : Int))), .tuple (List.replicate s' (row0 m)), polyD ps]) (fun q' h => ?_) (by simp) ?_
    · simp [and_assoc]
      refine ⟨by omega, by omega, by omega, by omega, _, s', rfl, rfl, by simp, by omega, by omega, by simp, by omega, ?_⟩
      have e : (List.replicate (s' : Int).toNat [row0 m]).flatten = List.replicate s' (row0 m) := by
        rw [Int.toNat_natCast]
        simp
      unfold row0 at e h
      rw [e]
      exact h
    simp only [List.set_cons_succ, List.set_cons_zero]
    have lS := len_cut (S := alphaS) (k := m) (by rw [alpha_len]; exact m26)
    have lR : (List.replicate s' (row0 m)).length = s' := List.length_replicate
    generalize hS0 : cutS alphaS none (some (m : Int)) = S at M lS
    generalize hR0 : List.replicate s' (row0 m) = R at M lR
    generalize hmm : PyData.tuple [.str "machine", .str S, .tuple R, polyD ps] = mm at M
    have lS' : S.length = m := lS
    refine seq_setP (fun d => ∃ ys, d = polyD ys ∧ DepthOf m s' ps ys) (fun q' h => ?_) (by simp) ?_
    · have go : RDepth [mm] q' := ⟨S, R, ps, mm, rfl, M, ro.sm, fun ys hy => h _ ⟨ys, rfl, by rw [lS', lR] at hy; exact hy⟩⟩
      subst hdd
      simp
      by_cases hi : 0 < i0
      · rw [if_pos hi]
        exact go
      · rw [if_neg hi]
        exact go
    rintro _ ⟨ys, rfl, hy⟩
    simp only [List.set_cons_succ, List.set_cons_zero]
    have lg1 : lgB m ≤ 5 := lgB_le (by omega) (by omega)
    have lg2 : lgB (s' + 2) ≤ 5 := lgB_le (by omega) (by omega)
    have lg3 : 1 ≤ lgB (s' + 2) := (lgB_lt (b := 0) (by omega)).mpr (by omega)
    have yo := depth_ok ro.ok ro.sm lg1 lg2 lg3 hy
    refine seq_skip (repr_skip (polyD ys) (repr_poly yo) (fun q' h => ?_) (fun q' h => ?_)) ?_
    · exact ⟨_, rfl, h⟩
    · refine ⟨_, rfl, S, R, ps, mm, rfl, M, ro.sm, fun zs hz => ?_⟩
      rw [lS', lR] at hz
      rw [show zs.map prD = ys.map prD by rw [depth_uniq hz hy]]
      exact h
    refine seq_setP (fun d => ∃ n : Nat, d = .int n ∧ n ≤ 6) (fun q' h => ?_) (by simp) ?_
    · simp
      intro r r0 r1
      exact h _ ⟨r.toNat, by rw [Int.toNat_of_nonneg r0], by omega⟩
    rintro _ ⟨n, rfl, hn⟩
    simp only [List.set_cons_succ, List.set_cons_zero]
    refine seq_for (intsD 0 6) (fun k E => ∃ (n : Nat) (e10 : DV), n ≤ 6 ∧ (polyV ps n ≤ 30 ∨ n + k ≤ 6) ∧ E = [.no, .deck, .d d, .d (.int m), .d (.int s'), .d (.str S), .d (polyD ps), .d mm, .d (polyD ys), .d (.int n), e10, e11, e12, e13, .no, .no, .no, .no, .no, .no]) (rng 6) ⟨n, _, hn, .inr (by omega), rfl⟩ ?_ ?_
    · rintro k2 d2 E2 hd2 ⟨n, e10, hn, ha, rfl⟩
      refine ⟨by simp, ?_⟩
      simp only [List.set_cons_succ, List.set_cons_zero]
      by_cases hn0 : n = 0
      · subst hn0
        simp
        have := ro.z
        exact ⟨0, by omega, .inl this, by simp⟩
      · have c0 : (0 : Int) < (n : Int) := by omega
        have n0 : 0 < n := by omega
        simp [c0, n0]
        refine ⟨ps, n, rfl, Nat.le_trans ro.ok.len (by omega), fun p hp => by have := ro.ok.exp p hp; omega, by omega, _, rfl, ?_⟩
        by_cases h30 : 30 < polyV ps n
        · rw [if_pos h30]
          exact ⟨n - 1, by omega, .inr (by omega), by omega⟩
        · rw [if_neg h30]
          exact ⟨n, hn, .inl (by omega), rfl⟩
    rintro E2 ⟨n, e10, hn, ha, rfl⟩
    have hv30 : polyV ps n ≤ 30 := by
      rcases ha with h | h
      · exact h
      · have : n = 0 := by rw [ints_len] at h; omega
        rw [this]
        exact ro.z
    obtain ⟨v1, v2⟩ := ro.v n hn
    obtain ⟨w', hw⟩ : ∃ w' : Nat, polyV ps n = (w' : Int) := ⟨(polyV ps n).toNat, by omega⟩
    have valY := depth_val ro.ok hy n
    rw [hw] at valY
    refine seq_set1 (.int w') (fun q' h => ?_) (by simp) ?_
    · simp
      exact ⟨ps, n, rfl, Nat.le_trans ro.ok.len (by omega), fun p hp => by have := ro.ok.exp p hp; omega, by omega, by rw [hw]; exact h⟩
    simp only [List.set_cons_succ, List.set_cons_zero]
    have cm : CMul (((lgB m : Nat) : Int) + 1) (w' : Int) := .inl ⟨by omega, by omega⟩
    refine seq_skip (fun k hk => ?_) ?_
    · simp
      refine ⟨ys, n, rfl, yo, by omega, m, rfl, by omega, by omega, _, rfl, cm, s' + 2, rfl, by omega, by omega, _, rfl, ?_⟩
      rw [valY]
      simp
      exact hk
    have cm2 : CMul ((s' : Int) + 2) (w' : Int) := .inl ⟨by omega, by omega⟩
    refine seq_set1 (.int (((s' + 2) * w' : Nat) : Int)) (fun q' h => ?_) (by simp) ?_
    · simp [cm2]
      simpa using h
    simp only [List.set_cons_succ, List.set_cons_zero]
    refine seq_for (intsD 0 w') (fun k E => ∃ e13 : DV, E = [.no, .deck, .d d, .d (.int m), .d (.int s'), .d (.str S), .d (polyD ps), .d mm, .d (polyD ys), .d (.int n), e10, .d (.int w'), .d (.int (((s' + 2) * w' * m ^ k : Nat) : Int)), e13, .no, .no, .no, .no, .no, .no]) (rngV w' (by omega)) ⟨e13, by simp⟩ ?_ ?_
    · rintro k x E' hx ⟨e13, rfl⟩
      have e : (s' + 2) * w' * m ^ (k + 1) = (s' + 2) * w' * m ^ k * m := by rw [Nat.pow_succ, Nat.mul_assoc ((s' + 2) * w')]
      rw [e]
      generalize (s' + 2) * w' * m ^ k = mv
      have cm3 : CMul (mv : Int) (m : Int) := .inr ⟨by omega, by omega⟩
      refine ⟨by simp, ?_⟩
      simp only [List.set_cons_succ, List.set_cons_zero]
      simp [cm3]
    rintro E2 ⟨e13, rfl⟩
    rw [ints_len]
    have big : ((cntS m s' w' : Nat) : Int) ≤ ((2 ^ ((lgB m + 1) * w' + lgB (s' + 2)) : Nat) : Int) := Int.ofNat_le.mpr (cnt_pow (by omega))
    have et : polyV ys n = (((lgB m + 1) * w' + lgB (s' + 2) : Nat) : Int) := by rw [valY]; simp
    have : (lgB m + 1) * w' ≤ 6 * 30 := Nat.mul_le_mul (by omega) (by omega)
    have cs : CShl 1 (((lgB m + 1) * w' + lgB (s' + 2) : Nat) : Int) := shl_ok (n := 1) (by decide) (by omega)
    refine one_skip (fun k hk => ?_) ⟨_, _, _, _, _, _, _, _, _, _, _, _, rfl⟩
    simp
    refine ⟨ys, n, rfl, yo, by omega, _, rfl, by rw [et]; exact cs, ?_⟩
    rw [et, Int.toNat_natCast]
    have e1 : ((cntS m s' w' : Nat) : Int) = (↑s' + 2) * ↑w' * ↑m ^ w' := by unfold cntS; simp
    have e2 : ((2 ^ ((lgB m + 1) * w' + lgB (s' + 2)) : Nat) : Int) = 2 ^ ((lgB m + 1) * w' + lgB (s' + 2)) := by simp
    rw [e1, e2] at big
    rw [decide_eq_false (by omega)]
    exact hk
  rintro E' ⟨e2, e3, e4, e5, e6, e7, e8, e9, e10, e11, e12, e13, rfl⟩
  refine seq_asgP (fun d => ∃ m z S R ps w, d = .tuple [m, .str z] ∧ Play m z S R ps w) (fun q' h => ⟨rfl, rfl, fun m z S R ps w hp => h _ ⟨m, z, S, R, ps, w, rfl, hp⟩⟩) ?_
  rintro _ ⟨mm, z, S, R, ps, n, rfl, hp⟩
  refine ⟨_, rfl, rfl, _, _, rfl, by simp, _, _, rfl, by simp, rfl, ?_⟩
  simp only [List.set_cons_succ, List.set_cons_zero]
  obtain ⟨M, sm, lz, z3, hv, n1, n6, hcnt⟩ := hp
  have S0 : 0 < S.length := by have := M.s2; omega
  have H0 : Ok3 S R.length n (0, 0, firstT S n z) := first_stand S0 n1
  have oi := orb_ok M H0
  have hR' : R.length ≤ sizeLine := Nat.le_trans M.r24 (by decide)
  refine seq_asgP (fun d => ∃ (k : Nat) (again : Int), d = .tuple [.list (orbL (orb S R (0, 0, firstT S n z)) k), .int again] ∧ 1 ≤ k ∧ k ≤ cntS S.length R.length n ∧ ∃ j : Nat, j < k ∧ orb S R (0, 0, firstT S n z) j = orb S R (0, 0, firstT S n z) k) (fun q' h => ?_) ?_
  · refine ⟨_, rfl, _, rfl, _, rfl, S, R, ps, mm, z, n, rfl, M, lz, by omega, hv, n1, by omega, ?_⟩
    refine ⟨S, R, ps, mm, (0, 0, firstT S n z), n, 2001, rfl, M, H0, by omega, by omega, by omega, fun k again k1 k2 nd ha => ?_⟩
    have hk := orb_count M H0 nd
    rcases ha with ⟨rfl, h2⟩ | ⟨j, h1, h2, h3⟩
    · omega
    · exact h _ ⟨k, again, rfl, k1, hk, j, h1, h3⟩
  rintro _ ⟨k, again, rfl, k1, k2, j0, hj0, ej0⟩
  refine ⟨_, rfl, rfl, _, _, rfl, by simp, _, _, rfl, by simp, rfl, ?_⟩
  simp only [List.set_cons_succ, List.set_cons_zero]
  refine seq_par (.d (tD3 (0, 0, firstT S n z))) (.d (.int 0)) (fun q' h => ?_) (by simp) (by simp) ?_
  · simp
    exact ⟨S, R, ps, mm, z, n, rfl, M, lz, by omega, hv, n1, by omega, h⟩
  simp only [List.set_cons_succ, List.set_cons_zero]
  generalize ho : orb S R (0, 0, firstT S n z) = o at *
  have o0 : o 0 = (0, 0, firstT S n z) := by rw [← ho]; rfl
  have iff0 : (∃ i, (o i).1 = R.length) ↔ (o (k - 1)).1 = R.length := by
    subst ho
    exact acc_iff hj0 ej0 (Nat.le_refl _)
  let T' : Nat := if k < 80 then k else 0
  refine seq_for (intsD 0 T') (fun i E => ∃ (j : Nat) (e2 : DV), j ≤ i ∧ (j = i ∨ (o j).1 = R.length) ∧ E = [.no, .deck, e2, e3, e4, e5, e6, .d mm, e8, e9, e10, e11, e12, e13, .d (.str z), .d (.list (orbL o k)), .d (.int again), .d (tD3 (o j)), .d (.int j), .no]) (fun q' h => ?_) ⟨0, _, by omega, .inl rfl, by rw [o0]; rfl⟩ ?_ ?_
  · simp [orbL_len]
    refine ⟨by omega, ?_⟩
    by_cases h80 : k < 80
    · have eT : T' = k := if_pos h80
      rw [eT] at h
      rw [if_pos (by omega)]
      exact ⟨by omega, by omega, h⟩
    · have eT : T' = 0 := if_neg h80
      rw [eT] at h
      rw [if_neg (by omega)]
      exact h
  · rintro i d E' hd ⟨j, e2', hj, hd2, rfl⟩
    refine ⟨by simp, ?_⟩
    simp only [List.set_cons_succ, List.set_cons_zero]
    by_cases hs : (o j).1 = R.length
    · refine ifS_neg (fun k' hk => ?_) ⟨j, _, by omega, .inr hs, rfl⟩
      rw [M.e]
      simp [tD3, standD, hR', hs]
      exact hk
    · have ji : j = i := hd2.elim id fun h => absurd h hs
      refine ifS_pos (fun k' hk => ?_) ?_
      · rw [M.e]
        simp [tD3, standD, hR']
        exact .inr ⟨by omega, hk⟩
      have Hk := oi j
      have nk := nxt_ok M Hk
      refine par_one (.d (tD3 (o (j + 1)))) (.d (.int ((j + 1 : Nat) : Int))) (fun q' h => ?_) (by simp) (by simp) ⟨j + 1, _, by omega, .inl (by omega), rfl⟩
      simp
      refine ⟨S, R, ps, mm, _, _, _, rfl, M, by rw [Hk.l]; exact Hk, by rw [Hk.l]; omega, ?_⟩
      rw [nk.1]
      subst ho
      exact h
  rintro E' ⟨j, e2', hj, hd2, rfl⟩
  rw [ints_len] at hj hd2
  refine seq_set1 (.bool (decide ((o (k - 1)).1 = R.length))) (fun q' h => ?_) (by simp) ?_
  · have e1 := atI_last (o := o) k1
    rw [M.e]
    simp [e1, tD3, standD, hR']
    rw [cbeq]
    exact h
  simp only [List.set_cons_succ, List.set_cons_zero]
  refine seq_skip (fun k' hk => ?_) ?_
  · rw [M.e]
    simp [tD3, standD, hR', orbL_len]
    refine ⟨by omega, ?_⟩
    have M2 : Mach S R ps (PyData.tuple [.str "machine", .str S, .tuple R, polyD ps]) := M.e ▸ M
    have a2 := M.s2
    have a26 := M.s26
    have r1 := M.r1
    have r24 := M.r24
    have lg1 : lgB S.length ≤ 5 := lgB_le (by omega) (by omega)
    have lg2 : lgB (R.length + 2) ≤ 5 := lgB_le (by omega) (by omega)
    have lg3 : 1 ≤ lgB (R.length + 2) := (lgB_lt (b := 0) (by omega)).mpr (by omega)
    have lw : (lgB S.length + 1) * n ≤ 6 * 6 := Nat.mul_le_mul (by omega) n6
    have jk : j ≤ k := by
      have : T' ≤ k := by
        show (if k < 80 then k else 0) ≤ k
        split <;> omega
      omega
    have big : j ≤ 2 ^ ((lgB S.length + 1) * n + lgB (R.length + 2)) := Nat.le_trans jk (Nat.le_trans k2 (cnt_pow (by omega)))
    have go : RDepth [PyData.tuple [.str "machine", .str S, .tuple R, polyD ps]] fun d => z.length ≤ sizeLine ∧ RVal [d, PyData.int z.length] fun y => ∃ x, y = PyData.int x ∧ CShl 1 x ∧ k' (decide (2 ^ x.toNat < (j : Int))) := by
      refine ⟨S, R, ps, _, rfl, M2, sm, fun ys hy => ⟨by omega, ys, z.length, rfl, depth_ok M.po sm lg1 lg2 lg3 hy, by omega, _, rfl, ?_⟩⟩
      have et : polyV ys z.length = (((lgB S.length + 1) * n + lgB (R.length + 2) : Nat) : Int) := by rw [depth_val M.po hy, hv]; simp
      rw [et]
      refine ⟨shl_ok (n := 1) (by decide) (by omega), ?_⟩
      rw [Int.toNat_natCast]
      have e2 : ((2 ^ ((lgB S.length + 1) * n + lgB (R.length + 2)) : Nat) : Int) = 2 ^ ((lgB S.length + 1) * n + lgB (R.length + 2)) := by simp
      rw [decide_eq_false (by rw [← e2]; omega)]
      exact hk
    by_cases h80 : k < 80
    · rw [if_pos (by omega)]
      refine .inl ⟨?_, go⟩
      rw [cbeq]
      have eT : T' = k := if_pos h80
      rw [eT] at hd2
      have iff : (o j).1 = R.length ↔ (o (k - 1)).1 = R.length := by
        constructor
        · exact fun h => iff0.mp ⟨j, h⟩
        · intro h
          rcases hd2 with e | e
          · have := orb_halt (S := S) (R := R) (t := (0, 0, firstT S n z)) (i := k - 1) (by rw [ho]; omega) 1
            rw [ho, show k - 1 + 1 = k by omega] at this
            rw [e, this]
            exact h
          · exact e
      by_cases e : (o j).1 = R.length
      · rw [decide_eq_true e, decide_eq_true (iff.mp e)]
      · rw [decide_eq_false e, decide_eq_false fun h => e (iff.mpr h)]
    · rw [if_neg (by omega)]
      exact go
  have bl := repr_bool (decide ((o (k - 1)).1 = R.length))
  refine ⟨_, rfl, _, rfl, S, R, ps, mm, z, n, rfl, M, lz, by omega, hv, n1, by omega, ⟨j0, k, hj0, by omega, by rw [ho]; exact ej0⟩, fun b hb => ?_⟩
  rw [ho] at hb
  rw [bool_of (hb.trans iff0)]
  refine ⟨_, rfl, bl.1, bl.2.1, bl.2.2, _, rfl, _, rfl, bl.1, bl.2.1, bl.2.2, ?_⟩
  simp
end
end Zk

set_option maxHeartbeats 4000000
/-! F0: what the head says of defs and error classes (no text of a program here). -/
namespace Zk
open PySem PySem.Spec PyProof.Rows L2
open PySem.W (findIn subIn typeIn keepIn excTail kitOne kitAny exmOne clsIn nsIn)
/-- what the written part says of one error class -/
structure ClsF (K : PySem.W.Frag) (x f qual : Str) (st : Stmt) (B C fI : Addr) : Prop where
  gC : nsIn K mainGlobals x = some (some (.ref C))
  xL : ∃ q N bs sn sub ab col dd k0 k1 k2 k3 k5, K.lookup C = some (excClassObj x q C N bs [.ref B, .type "Exception", .type "BaseException", .type "object"] true sn sub ab col dd k0 k1 k2 k3 k5 "Exception.__new__")
  sa : findIn K (.ref C) "__setattr__" = some (some (.builtin "object.__setattr__"))
  ga : findIn K (.ref C) "__getattribute__" = some (some (.builtin "BaseException.__getattribute__"))
  gg : findIn K (.ref C) "__getattr__" = some none
  ca : findIn K (.ref C) "__class__" = some (some (.builtin "object.__class__"))
  exC : subIn K (.ref C) (.type "BaseException") = some true
  tyC : typeIn K (.ref C) = some (.type "type")
  kC : keepIn K (.ref C) = true
  no : findIn K (.ref C) f = some none
  iC : findIn K (.ref C) "__init__" = some (some (.ref fI))
  tI : typeIn K (.ref fI) = some (.type "function")
  fn : ∃ fd, Fun K "__init__" qual st fI fd
section
variable {K : PySem.W.Frag} {x f qual : Str} {st : Stmt} {B C fI : Addr}
theorem clsF_mk {q : Str} {N : Addr} {bs : List Value} {sn : List Str} {sub : List Value} {ab : Bool} {col : Option Bool} {dd : Option Addr} {k0 k1 k2 k3 k5 : Option Value} {oc kV dc pm cd ct : Value} {od an : Option Addr} {sl : Array (Option Value)}
    (gC : nsIn K mainGlobals x = some (some (.ref C)))
    (xL : K.lookup C = some (excClassObj x q C N bs [.ref B, .type "Exception", .type "BaseException", .type "object"] true sn sub ab col dd k0 k1 k2 k3 k5 "Exception.__new__"))
    (sa : findIn K (.ref C) "__setattr__" = some (some (.builtin "object.__setattr__"))) (ga : findIn K (.ref C) "__getattribute__" = some (some (.builtin "BaseException.__getattribute__"))) (gg : findIn K (.ref C) "__getattr__" = some none)
    (ca : findIn K (.ref C) "__class__" = some (some (.builtin "object.__class__"))) (exC : subIn K (.ref C) (.type "BaseException") = some true) (tyC : typeIn K (.ref C) = some (.type "type")) (kC : keepIn K (.ref C) = true) (no : findIn K (.ref C) f = some none)
    (iC : findIn K (.ref C) "__init__" = some (some (.ref fI))) (tI : typeIn K (.ref fI) = some (.type "function"))
    (l1 : K.lookup fI = some ⟨oc, od, .func (PySem.W.fnOf "__init__" qual (defArgs st) (defBody st) (defScope st) .none kV dc pm an cd ct), sl⟩) (c1 : PySem.W.codeIn K cd qual = true) (k1' : keepIn K (.ref fI) = true) : ClsF K x f qual st B C fI :=
  ⟨gC, ⟨q, N, bs, sn, sub, ab, col, dd, k0, k1, k2, k3, k5, xL⟩, sa, ga, gg, ca, exC, tyC, kC, no, iC, tI, _, fun_mk l1 c1 k1'⟩
theorem ClsF.err {h : Heap} {mg : Str → Option Value} (T : ClsF K x f qual st B C fI) (X : K.In h) (G : h.Ns mainGlobals mg) : ErrC K mg B x C := by
  obtain ⟨q, N, bs, sn, sub, ab, col, dd, k0, k1, k2, k3, k5, xL⟩ := T.xL
  have cl : ∃ cd, clsIn K C = some cd ∧ cd.name = x ∧ cd.mro = [.ref C, .ref B, .type "Exception", .type "BaseException", .type "object"] := by
    refine ⟨{ name := x, bases := bs, mro := .ref C :: [.ref B, .type "Exception", .type "BaseException", .type "object"], ns := N, qualname := q, hasDict := true, slotNames := sn, subclasses := sub, abstract := ab, collection := col, hasDel := false }, ?_, rfl, rfl⟩
    unfold clsIn
    rw [xL]
  exact ⟨⟨⟨x, q, N, bs, _, sn, sub, ab, col, dd, k0, k1, k2, k3, k5, xL, rfl⟩, T.sa, T.ga, T.gg, T.ca, T.exC, T.tyC, T.kC⟩, PySem.W.mg_of X G T.gC, cl⟩
theorem baseC_mk {h : Heap} {mg : Str → Option Value} (X : K.In h) (G : h.Ns mainGlobals mg) {q : Str} {N : Addr} {bs bm : List Value} {hdct : Bool} {sn : List Str} {sub : List Value} {ab : Bool} {col : Option Bool} {dd : Option Addr} {k0 k1 k2 k3 k5 : Option Value}
    (gB : nsIn K mainGlobals x = some (some (.ref B))) (xB : K.lookup B = some (excClassObj x q B N bs bm hdct sn sub ab col dd k0 k1 k2 k3 k5 "Exception.__new__"))
    (ty : typeIn K (.ref B) = some (.type "type")) (ex : subIn K (.ref B) (.type "BaseException") = some true) (sp : PySem.W.specialIn K (.ref B) "__getattribute__" = some (some (.builtin "type.__getattribute__")))
    (rd : PySem.W.readsIn K B (.type "type") = true) (fc : PySem.W.findCls K (.ref B) (.type "type") "__init__" = some (.val (.builtin "Exception.__init__"))) : BaseC K mg x B := by
  refine ⟨PySem.W.mg_of X G gB, ⟨{ name := x, bases := bs, mro := .ref B :: bm, ns := N, qualname := q, hasDict := hdct, slotNames := sn, subclasses := sub, abstract := ab, collection := col, hasDel := false }, ?_, rfl⟩, ty, ex, sp, rd, fc⟩
  unfold clsIn
  rw [xB]
end
/-- a def of the top -/
structure DefF (K : PySem.W.Frag) (x : Str) (st : Stmt) (f : Addr) : Prop where
  a : nsIn K mainGlobals x = some (some (.ref f))
  fn : ∃ fd, Fun K x x st f fd
theorem defF_mk {K : PySem.W.Frag} {x : Str} {st : Stmt} {f : Addr} {od an : Option Addr} {sl : Array (Option Value)} {oc kV dc pm cd ct : Value} (a : nsIn K mainGlobals x = some (some (.ref f)))
    (l : K.lookup f = some ⟨oc, od, .func (PySem.W.fnOf x x (defArgs st) (defBody st) (defScope st) .none kV dc pm an cd ct), sl⟩) (c : PySem.W.codeIn K cd x = true) (k : keepIn K (.ref f) = true) : DefF K x st f := ⟨a, _, fun_mk l c k⟩

end Zk

set_option maxHeartbeats 4000000
/-! A7: what the program's top has written, gathered. (written by genEnd.py) -/
namespace Zk
open PySem PySem.Spec PyProof.Rows L2 GxR
open PySem.W (keepIn nsIn)
theorem all_mk {l : PySem.W.OpenLaw} {q : Program} {loose : List Str} {mean : ExcName → Option Value} {w : World} {K : PySem.W.Frag} {h : Heap} {mg mb : Str → Option Value} {fa : Addr} (X : K.In h) (T0 : Top q loose mean mg mb h) (hfa : mg "law" = some (.ref fa)) (hn : (K.all fun p => !isTab p.2) = true)
    (q1 : ((recsOf q).any fun d => d.name == ("is_ascending" : Str)) = true)
    (q2 : ((recsOf q).any fun d => d.name == ("is_word" : Str)) = true)
    (q3 : ((recsOf q).any fun d => d.name == ("is_poly" : Str)) = true)
    (q4 : ((recsOf q).any fun d => d.name == ("is_machine" : Str)) = true)
    (q5 : ((recsOf q).any fun d => d.name == ("is_state" : Str)) = true)
    (q6 : ((recsOf q).any fun d => d.name == ("is_of_machine" : Str)) = true)
    {f_s_is_integer : Addr} (d_s_is_integer : DefF K "is_integer" s_is_integer f_s_is_integer)
    {f_s_is_letter : Addr} (d_s_is_letter : DefF K "is_letter" s_is_letter f_s_is_letter)
    {f_s_is_ascending : Addr} (d_s_is_ascending : DefF K "is_ascending" s_is_ascending f_s_is_ascending)
    {f_s_is_word : Addr} (d_s_is_word : DefF K "is_word" s_is_word f_s_is_word)
    {f_s_is_poly : Addr} (d_s_is_poly : DefF K "is_poly" s_is_poly f_s_is_poly)
    {f_s_is_pair : Addr} (d_s_is_pair : DefF K "is_pair" s_is_pair f_s_is_pair)
    {f_s_value_at : Addr} (d_s_value_at : DefF K "value_at" s_value_at f_s_value_at)
    {f_s_power_of : Addr} (d_s_power_of : DefF K "power_of" s_power_of f_s_power_of)
    {f_s_sum_of : Addr} (d_s_sum_of : DefF K "sum_of" s_sum_of f_s_sum_of)
    {f_s_product_of : Addr} (d_s_product_of : DefF K "product_of" s_product_of f_s_product_of)
    {f_s_check_both : Addr} (d_s_check_both : DefF K "check_both" s_check_both f_s_check_both)
    {f_s_gathered : Addr} (d_s_gathered : DefF K "gathered" s_gathered f_s_gathered)
    {f_s_constant : Addr} (d_s_constant : DefF K "constant" s_constant f_s_constant)
    {f_s_is_machine : Addr} (d_s_is_machine : DefF K "is_machine" s_is_machine f_s_is_machine)
    {f_s_is_state : Addr} (d_s_is_state : DefF K "is_state" s_is_state f_s_is_state)
    {f_s_is_rule : Addr} (d_s_is_rule : DefF K "is_rule" s_is_rule f_s_is_rule)
    {f_s_check_machine : Addr} (d_s_check_machine : DefF K "check_machine" s_check_machine f_s_check_machine)
    {f_s_check_machine_and_word : Addr} (d_s_check_machine_and_word : DefF K "check_machine_and_word" s_check_machine_and_word f_s_check_machine_and_word)
    {f_s_depth : Addr} (d_s_depth : DefF K "depth" s_depth f_s_depth)
    {f_s_digits : Addr} (d_s_digits : DefF K "digits" s_digits f_s_digits)
    {f_s_first_standing : Addr} (d_s_first_standing : DefF K "first_standing" s_first_standing f_s_first_standing)
    {f_s_accepts : Addr} (d_s_accepts : DefF K "accepts" s_accepts f_s_accepts)
    {f_s_is_of_machine : Addr} (d_s_is_of_machine : DefF K "is_of_machine" s_is_of_machine f_s_is_of_machine)
    {f_s_check_standing : Addr} (d_s_check_standing : DefF K "check_standing" s_check_standing f_s_check_standing)
    {f_s_next_standing : Addr} (d_s_next_standing : DefF K "next_standing" s_next_standing f_s_next_standing)
    {f_s_standing_after : Addr} (d_s_standing_after : DefF K "standing_after" s_standing_after f_s_standing_after)
    {f_sDeck : Addr} (d_sDeck : DefF K "_law_deck" sDeck f_sDeck)
    {f_sDraw : Addr} (d_sDraw : DefF K "_law_draw" sDraw f_sDraw)
    {f_sPick : Addr} (d_sPick : DefF K "_law_pick" sPick f_sPick)
    {f_s_law_value : Addr} (d_s_law_value : DefF K "_law_value" s_law_value f_s_law_value)
    {f_s_law_times : Addr} (d_s_law_times : DefF K "_law_times" s_law_times f_s_law_times)
    {f_s_law_plus : Addr} (d_s_law_plus : DefF K "_law_plus" s_law_plus f_s_law_plus)
    {f_s_law_lg : Addr} (d_s_law_lg : DefF K "_law_lg" s_law_lg f_s_law_lg)
    {f_s_law_depth : Addr} (d_s_law_depth : DefF K "_law_depth" s_law_depth f_s_law_depth)
    {f_s_law_many : Addr} (d_s_law_many : DefF K "_law_many" s_law_many f_s_law_many)
    {f_s_law_first : Addr} (d_s_law_first : DefF K "_law_first" s_law_first f_s_law_first)
    {f_s_law_next : Addr} (d_s_law_next : DefF K "_law_next" s_law_next f_s_law_next)
    {f_s_law_orbit : Addr} (d_s_law_orbit : DefF K "_law_orbit" s_law_orbit f_s_law_orbit)
    {f_s_law_signs : Addr} (d_s_law_signs : DefF K "_law_signs" s_law_signs f_s_law_signs)
    {f_s_law_rules : Addr} (d_s_law_rules : DefF K "_law_rules" s_law_rules f_s_law_rules)
    {f_s_law_drawn : Addr} (d_s_law_drawn : DefF K "_law_drawn" s_law_drawn f_s_law_drawn)
    {f_s_law_word : Addr} (d_s_law_word : DefF K "_law_word" s_law_word f_s_law_word)
    {f_s_law_rooms : Addr} (d_s_law_rooms : DefF K "_law_rooms" s_law_rooms f_s_law_rooms)
    {f_s_law_is_playable : Addr} (d_s_law_is_playable : DefF K "_law_is_playable" s_law_is_playable f_s_law_is_playable)
    {f_s_law_playable : Addr} (d_s_law_playable : DefF K "_law_playable" s_law_playable f_s_law_playable)
    {f_s_law : Addr} (d_s_law : DefF K "law" s_law f_s_law)
    (z_Exception : nsIn K mainGlobals "Exception" = some none)
    (z_all : nsIn K mainGlobals "all" = some none)
    (z_bool : nsIn K mainGlobals "bool" = some none)
    (z_dict : nsIn K mainGlobals "dict" = some none)
    (z_int : nsIn K mainGlobals "int" = some none)
    (z_isinstance : nsIn K mainGlobals "isinstance" = some none)
    (z_len : nsIn K mainGlobals "len" = some none)
    (z_list : nsIn K mainGlobals "list" = some none)
    (z_max : nsIn K mainGlobals "max" = some none)
    (z_min : nsIn K mainGlobals "min" = some none)
    (z_range : nsIn K mainGlobals "range" = some none)
    (z_repr : nsIn K mainGlobals "repr" = some none)
    (z_sorted : nsIn K mainGlobals "sorted" = some none)
    (z_str : nsIn K mainGlobals "str" = some none)
    (z_sum : nsIn K mainGlobals "sum" = some none)
    (z_tuple : nsIn K mainGlobals "tuple" = some none)
    : TopAt l w K 63 "script" mg fa h := by
  have G := T0.g
  have mz : ∀ {x : Str}, nsIn K mainGlobals x = some none → mg x = none := fun z => PySem.W.mg_none_of X G z
  have T : Blt mg := ⟨mz z_Exception, mz z_all, mz z_bool, mz z_dict, mz z_int, mz z_isinstance, mz z_len, mz z_list, mz z_max, mz z_min, mz z_range, mz z_repr, mz z_sorted, mz z_str, mz z_sum, mz z_tuple⟩
  have e := hfa.symm.trans (PySem.W.mg_of X G d_s_law.a)
  cases e
  obtain ⟨fd_s_is_integer, F_s_is_integer⟩ := d_s_is_integer.fn
  have b_s_is_integer : Binds K fd_s_is_integer ["thing"] [] := F_s_is_integer.binds fun _ _ _ _ _ _ us hl => match us, hl with | [_], _ => rfl
  have m_s_is_integer := PySem.W.mg_of X G d_s_is_integer.a
  obtain ⟨fd_s_is_letter, F_s_is_letter⟩ := d_s_is_letter.fn
  have b_s_is_letter : Binds K fd_s_is_letter ["thing"] [] := F_s_is_letter.binds fun _ _ _ _ _ _ us hl => match us, hl with | [_], _ => rfl
  have m_s_is_letter := PySem.W.mg_of X G d_s_is_letter.a
  obtain ⟨fd_s_is_ascending, F_s_is_ascending⟩ := d_s_is_ascending.fn
  have b_s_is_ascending : Binds K fd_s_is_ascending ["items"] [] := F_s_is_ascending.binds fun _ _ _ _ _ _ us hl => match us, hl with | [_], _ => rfl
  have m_s_is_ascending := PySem.W.mg_of X G d_s_is_ascending.a
  obtain ⟨fd_s_is_word, F_s_is_word⟩ := d_s_is_word.fn
  have b_s_is_word : Binds K fd_s_is_word ["thing"] [] := F_s_is_word.binds fun _ _ _ _ _ _ us hl => match us, hl with | [_], _ => rfl
  have m_s_is_word := PySem.W.mg_of X G d_s_is_word.a
  obtain ⟨fd_s_is_poly, F_s_is_poly⟩ := d_s_is_poly.fn
  have b_s_is_poly : Binds K fd_s_is_poly ["thing"] [] := F_s_is_poly.binds fun _ _ _ _ _ _ us hl => match us, hl with | [_], _ => rfl
  have m_s_is_poly := PySem.W.mg_of X G d_s_is_poly.a
  obtain ⟨fd_s_is_pair, F_s_is_pair⟩ := d_s_is_pair.fn
  have b_s_is_pair : Binds K fd_s_is_pair ["thing"] [] := F_s_is_pair.binds fun _ _ _ _ _ _ us hl => match us, hl with | [_], _ => rfl
  have m_s_is_pair := PySem.W.mg_of X G d_s_is_pair.a
  obtain ⟨fd_s_value_at, F_s_value_at⟩ := d_s_value_at.fn
  have b_s_value_at : Binds K fd_s_value_at ["poly", "number"] [] := F_s_value_at.binds fun _ _ _ _ _ _ us hl => match us, hl with | [_, _], _ => rfl
  have m_s_value_at := PySem.W.mg_of X G d_s_value_at.a
  obtain ⟨fd_s_power_of, F_s_power_of⟩ := d_s_power_of.fn
  have b_s_power_of : Binds K fd_s_power_of ["number", "exponent"] [] := F_s_power_of.binds fun _ _ _ _ _ _ us hl => match us, hl with | [_, _], _ => rfl
  have m_s_power_of := PySem.W.mg_of X G d_s_power_of.a
  obtain ⟨fd_s_sum_of, F_s_sum_of⟩ := d_s_sum_of.fn
  have b_s_sum_of : Binds K fd_s_sum_of ["poly", "other"] [] := F_s_sum_of.binds fun _ _ _ _ _ _ us hl => match us, hl with | [_, _], _ => rfl
  have m_s_sum_of := PySem.W.mg_of X G d_s_sum_of.a
  obtain ⟨fd_s_product_of, F_s_product_of⟩ := d_s_product_of.fn
  have b_s_product_of : Binds K fd_s_product_of ["poly", "other"] [] := F_s_product_of.binds fun _ _ _ _ _ _ us hl => match us, hl with | [_, _], _ => rfl
  have m_s_product_of := PySem.W.mg_of X G d_s_product_of.a
  obtain ⟨fd_s_check_both, F_s_check_both⟩ := d_s_check_both.fn
  have b_s_check_both : Binds K fd_s_check_both ["poly", "other"] [] := F_s_check_both.binds fun _ _ _ _ _ _ us hl => match us, hl with | [_, _], _ => rfl
  have m_s_check_both := PySem.W.mg_of X G d_s_check_both.a
  obtain ⟨fd_s_gathered, F_s_gathered⟩ := d_s_gathered.fn
  have b_s_gathered : Binds K fd_s_gathered ["pairs"] [] := F_s_gathered.binds fun _ _ _ _ _ _ us hl => match us, hl with | [_], _ => rfl
  have m_s_gathered := PySem.W.mg_of X G d_s_gathered.a
  obtain ⟨fd_s_constant, F_s_constant⟩ := d_s_constant.fn
  have b_s_constant : Binds K fd_s_constant ["number"] [] := F_s_constant.binds fun _ _ _ _ _ _ us hl => match us, hl with | [_], _ => rfl
  have m_s_constant := PySem.W.mg_of X G d_s_constant.a
  obtain ⟨fd_s_is_machine, F_s_is_machine⟩ := d_s_is_machine.fn
  have b_s_is_machine : Binds K fd_s_is_machine ["thing"] [] := F_s_is_machine.binds fun _ _ _ _ _ _ us hl => match us, hl with | [_], _ => rfl
  have m_s_is_machine := PySem.W.mg_of X G d_s_is_machine.a
  obtain ⟨fd_s_is_state, F_s_is_state⟩ := d_s_is_state.fn
  have b_s_is_state : Binds K fd_s_is_state ["thing", "signs", "many"] [] := F_s_is_state.binds fun _ _ _ _ _ _ us hl => match us, hl with | [_, _, _], _ => rfl
  have m_s_is_state := PySem.W.mg_of X G d_s_is_state.a
  obtain ⟨fd_s_is_rule, F_s_is_rule⟩ := d_s_is_rule.fn
  have b_s_is_rule : Binds K fd_s_is_rule ["thing", "signs", "many"] [] := F_s_is_rule.binds fun _ _ _ _ _ _ us hl => match us, hl with | [_, _, _], _ => rfl
  have m_s_is_rule := PySem.W.mg_of X G d_s_is_rule.a
  obtain ⟨fd_s_check_machine, F_s_check_machine⟩ := d_s_check_machine.fn
  have b_s_check_machine : Binds K fd_s_check_machine ["machine"] [] := F_s_check_machine.binds fun _ _ _ _ _ _ us hl => match us, hl with | [_], _ => rfl
  have m_s_check_machine := PySem.W.mg_of X G d_s_check_machine.a
  obtain ⟨fd_s_check_machine_and_word, F_s_check_machine_and_word⟩ := d_s_check_machine_and_word.fn
  have b_s_check_machine_and_word : Binds K fd_s_check_machine_and_word ["machine", "word"] [] := F_s_check_machine_and_word.binds fun _ _ _ _ _ _ us hl => match us, hl with | [_, _], _ => rfl
  have m_s_check_machine_and_word := PySem.W.mg_of X G d_s_check_machine_and_word.a
  obtain ⟨fd_s_depth, F_s_depth⟩ := d_s_depth.fn
  have b_s_depth : Binds K fd_s_depth ["machine"] [] := F_s_depth.binds fun _ _ _ _ _ _ us hl => match us, hl with | [_], _ => rfl
  have m_s_depth := PySem.W.mg_of X G d_s_depth.a
  obtain ⟨fd_s_digits, F_s_digits⟩ := d_s_digits.fn
  have b_s_digits : Binds K fd_s_digits ["number"] [] := F_s_digits.binds fun _ _ _ _ _ _ us hl => match us, hl with | [_], _ => rfl
  have m_s_digits := PySem.W.mg_of X G d_s_digits.a
  obtain ⟨fd_s_first_standing, F_s_first_standing⟩ := d_s_first_standing.fn
  have b_s_first_standing : Binds K fd_s_first_standing ["machine", "word"] [] := F_s_first_standing.binds fun _ _ _ _ _ _ us hl => match us, hl with | [_, _], _ => rfl
  have m_s_first_standing := PySem.W.mg_of X G d_s_first_standing.a
  obtain ⟨fd_s_accepts, F_s_accepts⟩ := d_s_accepts.fn
  have b_s_accepts : Binds K fd_s_accepts ["machine", "word"] [] := F_s_accepts.binds fun _ _ _ _ _ _ us hl => match us, hl with | [_, _], _ => rfl
  have m_s_accepts := PySem.W.mg_of X G d_s_accepts.a
  obtain ⟨fd_s_is_of_machine, F_s_is_of_machine⟩ := d_s_is_of_machine.fn
  have b_s_is_of_machine : Binds K fd_s_is_of_machine ["machine", "thing"] [] := F_s_is_of_machine.binds fun _ _ _ _ _ _ us hl => match us, hl with | [_, _], _ => rfl
  have m_s_is_of_machine := PySem.W.mg_of X G d_s_is_of_machine.a
  obtain ⟨fd_s_check_standing, F_s_check_standing⟩ := d_s_check_standing.fn
  have b_s_check_standing : Binds K fd_s_check_standing ["machine", "standing"] [] := F_s_check_standing.binds fun _ _ _ _ _ _ us hl => match us, hl with | [_, _], _ => rfl
  have m_s_check_standing := PySem.W.mg_of X G d_s_check_standing.a
  obtain ⟨fd_s_next_standing, F_s_next_standing⟩ := d_s_next_standing.fn
  have b_s_next_standing : Binds K fd_s_next_standing ["machine", "standing"] [] := F_s_next_standing.binds fun _ _ _ _ _ _ us hl => match us, hl with | [_, _], _ => rfl
  have m_s_next_standing := PySem.W.mg_of X G d_s_next_standing.a
  obtain ⟨fd_s_standing_after, F_s_standing_after⟩ := d_s_standing_after.fn
  have b_s_standing_after : Binds K fd_s_standing_after ["machine", "standing"] [] := F_s_standing_after.binds fun _ _ _ _ _ _ us hl => match us, hl with | [_, _], _ => rfl
  have m_s_standing_after := PySem.W.mg_of X G d_s_standing_after.a
  obtain ⟨fd_sDeck, F_sDeck⟩ := d_sDeck.fn
  have b_sDeck : Binds K fd_sDeck ["script"] [] := F_sDeck.binds fun _ _ _ _ _ _ us hl => match us, hl with | [_], _ => rfl
  have m_sDeck := PySem.W.mg_of X G d_sDeck.a
  obtain ⟨fd_sDraw, F_sDraw⟩ := d_sDraw.fn
  have b_sDraw : Binds K fd_sDraw ["deck", "many"] [] := F_sDraw.binds fun _ _ _ _ _ _ us hl => match us, hl with | [_, _], _ => rfl
  have m_sDraw := PySem.W.mg_of X G d_sDraw.a
  obtain ⟨fd_sPick, F_sPick⟩ := d_sPick.fn
  have b_sPick : Binds K fd_sPick ["deck", "some"] [] := F_sPick.binds fun _ _ _ _ _ _ us hl => match us, hl with | [_, _], _ => rfl
  have m_sPick := PySem.W.mg_of X G d_sPick.a
  obtain ⟨fd_s_law_value, F_s_law_value⟩ := d_s_law_value.fn
  have b_s_law_value : Binds K fd_s_law_value ["poly", "n"] [] := F_s_law_value.binds fun _ _ _ _ _ _ us hl => match us, hl with | [_, _], _ => rfl
  have m_s_law_value := PySem.W.mg_of X G d_s_law_value.a
  obtain ⟨fd_s_law_times, F_s_law_times⟩ := d_s_law_times.fn
  have b_s_law_times : Binds K fd_s_law_times ["one", "other"] [] := F_s_law_times.binds fun _ _ _ _ _ _ us hl => match us, hl with | [_, _], _ => rfl
  have m_s_law_times := PySem.W.mg_of X G d_s_law_times.a
  obtain ⟨fd_s_law_plus, F_s_law_plus⟩ := d_s_law_plus.fn
  have b_s_law_plus : Binds K fd_s_law_plus ["one", "other"] [] := F_s_law_plus.binds fun _ _ _ _ _ _ us hl => match us, hl with | [_, _], _ => rfl
  have m_s_law_plus := PySem.W.mg_of X G d_s_law_plus.a
  obtain ⟨fd_s_law_lg, F_s_law_lg⟩ := d_s_law_lg.fn
  have b_s_law_lg : Binds K fd_s_law_lg ["many"] [] := F_s_law_lg.binds fun _ _ _ _ _ _ us hl => match us, hl with | [_], _ => rfl
  have m_s_law_lg := PySem.W.mg_of X G d_s_law_lg.a
  obtain ⟨fd_s_law_depth, F_s_law_depth⟩ := d_s_law_depth.fn
  have b_s_law_depth : Binds K fd_s_law_depth ["machine"] [] := F_s_law_depth.binds fun _ _ _ _ _ _ us hl => match us, hl with | [_], _ => rfl
  have m_s_law_depth := PySem.W.mg_of X G d_s_law_depth.a
  obtain ⟨fd_s_law_many, F_s_law_many⟩ := d_s_law_many.fn
  have b_s_law_many : Binds K fd_s_law_many ["machine"] [] := F_s_law_many.binds fun _ _ _ _ _ _ us hl => match us, hl with | [_], _ => rfl
  have m_s_law_many := PySem.W.mg_of X G d_s_law_many.a
  obtain ⟨fd_s_law_first, F_s_law_first⟩ := d_s_law_first.fn
  have b_s_law_first : Binds K fd_s_law_first ["machine", "word"] [] := F_s_law_first.binds fun _ _ _ _ _ _ us hl => match us, hl with | [_, _], _ => rfl
  have m_s_law_first := PySem.W.mg_of X G d_s_law_first.a
  obtain ⟨fd_s_law_next, F_s_law_next⟩ := d_s_law_next.fn
  have b_s_law_next : Binds K fd_s_law_next ["machine", "standing"] [] := F_s_law_next.binds fun _ _ _ _ _ _ us hl => match us, hl with | [_, _], _ => rfl
  have m_s_law_next := PySem.W.mg_of X G d_s_law_next.a
  obtain ⟨fd_s_law_orbit, F_s_law_orbit⟩ := d_s_law_orbit.fn
  have b_s_law_orbit : Binds K fd_s_law_orbit ["machine", "standing", "most"] [] := F_s_law_orbit.binds fun _ _ _ _ _ _ us hl => match us, hl with | [_, _, _], _ => rfl
  have m_s_law_orbit := PySem.W.mg_of X G d_s_law_orbit.a
  obtain ⟨fd_s_law_signs, F_s_law_signs⟩ := d_s_law_signs.fn
  have b_s_law_signs : Binds K fd_s_law_signs ["deck", "many"] [] := F_s_law_signs.binds fun _ _ _ _ _ _ us hl => match us, hl with | [_, _], _ => rfl
  have m_s_law_signs := PySem.W.mg_of X G d_s_law_signs.a
  obtain ⟨fd_s_law_rules, F_s_law_rules⟩ := d_s_law_rules.fn
  have b_s_law_rules : Binds K fd_s_law_rules ["deck", "signs", "many"] [] := F_s_law_rules.binds fun _ _ _ _ _ _ us hl => match us, hl with | [_, _, _], _ => rfl
  have m_s_law_rules := PySem.W.mg_of X G d_s_law_rules.a
  obtain ⟨fd_s_law_drawn, F_s_law_drawn⟩ := d_s_law_drawn.fn
  have b_s_law_drawn : Binds K fd_s_law_drawn ["deck", "room", "most"] [] := F_s_law_drawn.binds fun _ _ _ _ _ _ us hl => match us, hl with | [_, _, _], _ => rfl
  have m_s_law_drawn := PySem.W.mg_of X G d_s_law_drawn.a
  obtain ⟨fd_s_law_word, F_s_law_word⟩ := d_s_law_word.fn
  have b_s_law_word : Binds K fd_s_law_word ["deck", "machine", "n"] [] := F_s_law_word.binds fun _ _ _ _ _ _ us hl => match us, hl with | [_, _, _], _ => rfl
  have m_s_law_word := PySem.W.mg_of X G d_s_law_word.a
  obtain ⟨fd_s_law_rooms, F_s_law_rooms⟩ := d_s_law_rooms.fn
  have b_s_law_rooms : Binds K fd_s_law_rooms ["deck"] [] := F_s_law_rooms.binds fun _ _ _ _ _ _ us hl => match us, hl with | [_], _ => rfl
  have m_s_law_rooms := PySem.W.mg_of X G d_s_law_rooms.a
  obtain ⟨fd_s_law_is_playable, F_s_law_is_playable⟩ := d_s_law_is_playable.fn
  have b_s_law_is_playable : Binds K fd_s_law_is_playable ["machine", "n", "most", "standings"] [] := F_s_law_is_playable.binds fun _ _ _ _ _ _ us hl => match us, hl with | [_, _, _, _], _ => rfl
  have m_s_law_is_playable := PySem.W.mg_of X G d_s_law_is_playable.a
  obtain ⟨fd_s_law_playable, F_s_law_playable⟩ := d_s_law_playable.fn
  have b_s_law_playable : Binds K fd_s_law_playable ["deck", "most", "standings"] [] := F_s_law_playable.binds fun _ _ _ _ _ _ us hl => match us, hl with | [_, _, _], _ => rfl
  have m_s_law_playable := PySem.W.mg_of X G d_s_law_playable.a
  obtain ⟨fd_s_law, F_s_law⟩ := d_s_law.fn
  have b_s_law : Binds K fd_s_law ["script"] [] := F_s_law.binds fun _ _ _ _ _ _ us hl => match us, hl with | [_], _ => rfl
  have m_s_law := PySem.W.mg_of X G d_s_law.a
  obtain ⟨c1, t1, FC1, h1, e1⟩ := funC_tab T0 X F_s_is_ascending m_s_is_ascending q1
  obtain ⟨c2, t2, FC2, h2, e2⟩ := funC_tab T0 X F_s_is_word m_s_is_word q2
  obtain ⟨c3, t3, FC3, h3, e3⟩ := funC_tab T0 X F_s_is_poly m_s_is_poly q3
  obtain ⟨c4, t4, FC4, h4, e4⟩ := funC_tab T0 X F_s_is_machine m_s_is_machine q4
  obtain ⟨c5, t5, FC5, h5, e5⟩ := funC_tab T0 X F_s_is_state m_s_is_state q5
  obtain ⟨c6, t6, FC6, h6, e6⟩ := funC_tab T0 X F_s_is_of_machine m_s_is_of_machine q6
  have each : ∀ {Z : Addr × Addr → Prop}, Z (c1, t1) → Z (c2, t2) → Z (c3, t3) → Z (c4, t4) → Z (c5, t5) → Z (c6, t6) → ∀ p ∈ [(c1, t1), (c2, t2), (c3, t3), (c4, t4), (c5, t5), (c6, t6)], Z p := fun a1 a2 a3 a4 a5 a6 p hp => by
    simp only [List.mem_cons, List.not_mem_nil, or_false] at hp
    rcases hp with rfl | rfl | rfl | rfl | rfl | rfl
    · exact a1
    · exact a2
    · exact a3
    · exact a4
    · exact a5
    · exact a6
  refine ⟨fd_s_law, [(c1, t1), (c2, t2), (c3, t3), (c4, t4), (c5, t5), (c6, t6)], spLaw K [t1, t2, t3, t4, t5, t6], each e1 e2 e3 e4 e5 e6, each (no_tab X hn e1) (no_tab X hn e2) (no_tab X hn e3) (no_tab X hn e4) (no_tab X hn e5) (no_tab X hn e6), each h1 h2 h3 h4 h5 h6, ?_, ?_, fun base _ _ sys TB => ?_⟩
  · intro s u
    obtain ⟨_, _, _, _, _, _, _, _, _, rfl, _⟩ := F_s_law.ex
    exact .of_eq rfl
  · intro H a ns hlen tabs hS
    have tg : ∀ p ∈ [(c1, t1), (c2, t2), (c3, t3), (c4, t4), (c5, t5), (c6, t6)], TabG H p.2 := fun p hp => ⟨#[], tabs p hp, by trivial⟩
    refine ⟨a, ns, rfl, hS, hlen, fun z hz => ?_, fun _ => rfl⟩
    simp only [List.mem_cons, List.not_mem_nil, or_false] at hz
    rcases hz with rfl | rfl | rfl | rfl | rfl | rfl
    · exact tg (c1, _) (by simp)
    · exact tg (c2, _) (by simp)
    · exact tg (c3, _) (by simp)
    · exact tg (c4, _) (by simp)
    · exact tg (c5, _) (by simp)
    · exact tg (c6, _) (by simp)
  have TB1 := TB (c1, t1) (by simp)
  have TB2 := TB (c2, t2) (by simp)
  have TB3 := TB (c3, t3) (by simp)
  have TB4 := TB (c4, t4) (by simp)
  have TB5 := TB (c5, t5) (by simp)
  have TB6 := TB (c6, t6) (by simp)
  have C_deck : CallD l.prog w K mg base "_law_deck" 1 ["script"] (spNewDeck K kn) := ⟨_, _, ok_deck F_sDeck T, b_sDeck, F_sDeck.kp, m_sDeck⟩
  have C_draw : CallD l.prog w K mg base "_law_draw" 1 ["deck", "many"] (spDk [t1, t2, t3, t4, t5, t6] kn RDraw) := ⟨_, _, ok_draw F_sDraw T, b_sDraw, F_sDraw.kp, m_sDraw⟩
  have C_pick : CallD l.prog w K mg base "_law_pick" 2 ["deck", "some"] (spDk [t1, t2, t3, t4, t5, t6] kn RPick) := ⟨_, _, ok_pick F_sPick T C_draw, b_sPick, F_sPick.kp, m_sPick⟩
  have C_int : CallD l.prog w K mg base "is_integer" 1 ["thing"] (spD' [t1, t2, t3, t4, t5, t6] (RB isIntB)) := ⟨_, _, ok_is_integer F_s_is_integer T, b_s_is_integer, F_s_is_integer.kp, m_s_is_integer⟩
  have C_letter : CallD l.prog w K mg base "is_letter" 1 ["thing"] (spD' [t1, t2, t3, t4, t5, t6] RLetter) := ⟨_, _, ok_is_letter F_s_is_letter T, b_s_is_letter, F_s_is_letter.kp, m_s_is_letter⟩
  have C_asc : CallD l.prog w K mg base "is_ascending" 2 ["items"] (spD' [t1, t2, t3, t4, t5, t6] RAsc) := ⟨_, _, ok_is_ascending FC1 TB1 (by simp) T, b_s_is_ascending, F_s_is_ascending.kp, m_s_is_ascending⟩
  have C_word : CallD l.prog w K mg base "is_word" 3 ["thing"] (spD' [t1, t2, t3, t4, t5, t6] RWord) := ⟨_, _, ok_is_word FC2 TB2 (by simp) T C_letter, b_s_is_word, F_s_is_word.kp, m_s_is_word⟩
  have C_pair : CallD l.prog w K mg base "is_pair" 2 ["thing"] (spD' [t1, t2, t3, t4, t5, t6] RPair) := ⟨_, _, ok_is_pair F_s_is_pair T C_int, b_s_is_pair, F_s_is_pair.kp, m_s_is_pair⟩
  have C_poly : CallD l.prog w K mg base "is_poly" 4 ["thing"] (spD' [t1, t2, t3, t4, t5, t6] RPoly) := ⟨_, _, ok_is_poly FC3 TB3 (by simp) T C_pair C_asc, b_s_is_poly, F_s_is_poly.kp, m_s_is_poly⟩
  have C_rule : CallD l.prog w K mg base "is_rule" 2 ["thing", "signs", "many"] (spD' [t1, t2, t3, t4, t5, t6] RRule) := ⟨_, _, ok_is_rule sys F_s_is_rule T C_int, b_s_is_rule, F_s_is_rule.kp, m_s_is_rule⟩
  have C_state : CallD l.prog w K mg base "is_state" 4 ["thing", "signs", "many"] (spD' [t1, t2, t3, t4, t5, t6] RState) := ⟨_, _, ok_is_state FC5 TB5 (by simp) T C_rule, b_s_is_state, F_s_is_state.kp, m_s_is_state⟩
  have C_mach : CallD l.prog w K mg base "is_machine" 6 ["thing"] (spD' [t1, t2, t3, t4, t5, t6] RMach) := ⟨_, _, ok_is_machine sys FC4 TB4 (by simp) T C_word C_asc C_state C_poly, b_s_is_machine, F_s_is_machine.kp, m_s_is_machine⟩
  have C_chkM : CallD l.prog w K mg base "check_machine" 7 ["machine"] (spD' [t1, t2, t3, t4, t5, t6] RChkM) := ⟨_, _, ok_chkM F_s_check_machine T C_mach, b_s_check_machine, F_s_check_machine.kp, m_s_check_machine⟩
  have C_chkMW : CallD l.prog w K mg base "check_machine_and_word" 8 ["machine", "word"] (spD' [t1, t2, t3, t4, t5, t6] RChkMW) := ⟨_, _, ok_chkMW F_s_check_machine_and_word T C_chkM C_word, b_s_check_machine_and_word, F_s_check_machine_and_word.kp, m_s_check_machine_and_word⟩
  have C_pow : CallD l.prog w K mg base "power_of" 1 ["number", "exponent"] (spD' [t1, t2, t3, t4, t5, t6] RPow) := ⟨_, _, ok_pow F_s_power_of T, b_s_power_of, F_s_power_of.kp, m_s_power_of⟩
  have C_val : CallD l.prog w K mg base "value_at" 5 ["poly", "number"] (spD' [t1, t2, t3, t4, t5, t6] RVal) := ⟨_, _, ok_val F_s_value_at T C_poly C_int C_pow, b_s_value_at, F_s_value_at.kp, m_s_value_at⟩
  have C_both : CallD l.prog w K mg base "check_both" 5 ["poly", "other"] (spD' [t1, t2, t3, t4, t5, t6] RBoth) := ⟨_, _, ok_both F_s_check_both T C_poly, b_s_check_both, F_s_check_both.kp, m_s_check_both⟩
  have C_gath : CallD l.prog w K mg base "gathered" 1 ["pairs"] (spD' [t1, t2, t3, t4, t5, t6] RGath) := ⟨_, _, ok_gath F_s_gathered T, b_s_gathered, F_s_gathered.kp, m_s_gathered⟩
  have C_sumof : CallD l.prog w K mg base "sum_of" 6 ["poly", "other"] (spD' [t1, t2, t3, t4, t5, t6] RSum) := ⟨_, _, ok_sum F_s_sum_of T C_both C_gath, b_s_sum_of, F_s_sum_of.kp, m_s_sum_of⟩
  have C_prodof : CallD l.prog w K mg base "product_of" 6 ["poly", "other"] (spD' [t1, t2, t3, t4, t5, t6] RProd) := ⟨_, _, ok_prod F_s_product_of T C_both C_gath, b_s_product_of, F_s_product_of.kp, m_s_product_of⟩
  have C_const : CallD l.prog w K mg base "constant" 1 ["number"] (spD' [t1, t2, t3, t4, t5, t6] RConst) := ⟨_, _, ok_const F_s_constant T, b_s_constant, F_s_constant.kp, m_s_constant⟩
  have C_dig : CallD l.prog w K mg base "digits" 1 ["number"] (spD' [t1, t2, t3, t4, t5, t6] RDig) := ⟨_, _, ok_dig F_s_digits T, b_s_digits, F_s_digits.kp, m_s_digits⟩
  have C_depth : CallD l.prog w K mg base "depth" 8 ["machine"] (spD' [t1, t2, t3, t4, t5, t6] RDepth) := ⟨_, _, ok_depth F_s_depth T C_chkM C_sumof C_prodof C_const C_dig, b_s_depth, F_s_depth.kp, m_s_depth⟩
  have C_after : CallD l.prog w K mg base "standing_after" 1 ["machine", "standing"] (spD' [t1, t2, t3, t4, t5, t6] RNext) := ⟨_, _, ok_after F_s_standing_after T, b_s_standing_after, F_s_standing_after.kp, m_s_standing_after⟩
  have C_first : CallD l.prog w K mg base "first_standing" 9 ["machine", "word"] (spD' [t1, t2, t3, t4, t5, t6] RFirst) := ⟨_, _, ok_first F_s_first_standing T C_chkMW C_val, b_s_first_standing, F_s_first_standing.kp, m_s_first_standing⟩
  have C_isof : CallD l.prog w K mg base "is_of_machine" 2 ["machine", "thing"] (spD' [t1, t2, t3, t4, t5, t6] RIsOf) := ⟨_, _, ok_isOf FC6 TB6 (by simp) T C_int, b_s_is_of_machine, F_s_is_of_machine.kp, m_s_is_of_machine⟩
  have C_chkS : CallD l.prog w K mg base "check_standing" 8 ["machine", "standing"] (spD' [t1, t2, t3, t4, t5, t6] RChkS) := ⟨_, _, ok_chkS F_s_check_standing T C_chkM C_isof, b_s_check_standing, F_s_check_standing.kp, m_s_check_standing⟩
  have C_next : CallD l.prog w K mg base "next_standing" 9 ["machine", "standing"] (spD' [t1, t2, t3, t4, t5, t6] RNext) := ⟨_, _, ok_next F_s_next_standing T C_chkS C_after, b_s_next_standing, F_s_next_standing.kp, m_s_next_standing⟩
  have C_acc : CallD l.prog w K mg base "accepts" 10 ["machine", "word"] (spD' [t1, t2, t3, t4, t5, t6] RAcc) := ⟨_, _, ok_accepts F_s_accepts T C_first C_after, b_s_accepts, F_s_accepts.kp, m_s_accepts⟩
  have C_lval : CallD l.prog w K mg base "_law_value" 1 ["poly", "n"] (spD' [t1, t2, t3, t4, t5, t6] RLV) := ⟨_, _, ok_lval F_s_law_value T, b_s_law_value, F_s_law_value.kp, m_s_law_value⟩
  have C_ltimes : CallD l.prog w K mg base "_law_times" 1 ["one", "other"] (spTimes K [t1, t2, t3, t4, t5, t6]) := ⟨_, _, ok_times F_s_law_times T, b_s_law_times, F_s_law_times.kp, m_s_law_times⟩
  have C_lplus : CallD l.prog w K mg base "_law_plus" 1 ["one", "other"] (spPlus K [t1, t2, t3, t4, t5, t6]) := ⟨_, _, ok_plus F_s_law_plus T, b_s_law_plus, F_s_law_plus.kp, m_s_law_plus⟩
  have C_llg : CallD l.prog w K mg base "_law_lg" 1 ["many"] (spD' [t1, t2, t3, t4, t5, t6] RLg) := ⟨_, _, ok_lg F_s_law_lg T, b_s_law_lg, F_s_law_lg.kp, m_s_law_lg⟩
  have C_ldepth : CallD l.prog w K mg base "_law_depth" 2 ["machine"] (spF [t1, t2, t3, t4, t5, t6] RLDepth) := ⟨_, _, ok_ldepth F_s_law_depth T C_llg C_ltimes C_lplus, b_s_law_depth, F_s_law_depth.kp, m_s_law_depth⟩
  have C_lmany : CallD l.prog w K mg base "_law_many" 3 ["machine"] (spF [t1, t2, t3, t4, t5, t6] RLMany) := ⟨_, _, ok_lmany F_s_law_many T C_ldepth C_ltimes C_lplus, b_s_law_many, F_s_law_many.kp, m_s_law_many⟩
  have C_lfirst : CallD l.prog w K mg base "_law_first" 2 ["machine", "word"] (spD' [t1, t2, t3, t4, t5, t6] RFirst) := ⟨_, _, ok_lfirst F_s_law_first T C_lval, b_s_law_first, F_s_law_first.kp, m_s_law_first⟩
  have C_lnext : CallD l.prog w K mg base "_law_next" 1 ["machine", "standing"] (spD' [t1, t2, t3, t4, t5, t6] RNext) := ⟨_, _, ok_lnext F_s_law_next T, b_s_law_next, F_s_law_next.kp, m_s_law_next⟩
  have C_orbit : CallD l.prog w K mg base "_law_orbit" 2 ["machine", "standing", "most"] (spD' [t1, t2, t3, t4, t5, t6] ROrb) := ⟨_, _, ok_orbit F_s_law_orbit T C_lnext, b_s_law_orbit, F_s_law_orbit.kp, m_s_law_orbit⟩
  have C_signs : CallD l.prog w K mg base "_law_signs" 2 ["deck", "many"] (spDk [t1, t2, t3, t4, t5, t6] kn RSigns) := ⟨_, _, ok_signs F_s_law_signs T C_draw, b_s_law_signs, F_s_law_signs.kp, m_s_law_signs⟩
  have C_rules : CallD l.prog w K mg base "_law_rules" 3 ["deck", "signs", "many"] (spDk [t1, t2, t3, t4, t5, t6] kn RRules) := ⟨_, _, ok_rules F_s_law_rules T C_draw C_pick, b_s_law_rules, F_s_law_rules.kp, m_s_law_rules⟩
  have C_drawn : CallD l.prog w K mg base "_law_drawn" 4 ["deck", "room", "most"] (spDk [t1, t2, t3, t4, t5, t6] kn RDrawn) := ⟨_, _, ok_drawn F_s_law_drawn T C_draw C_signs C_rules, b_s_law_drawn, F_s_law_drawn.kp, m_s_law_drawn⟩
  have C_lword : CallD l.prog w K mg base "_law_word" 3 ["deck", "machine", "n"] (spDk [t1, t2, t3, t4, t5, t6] kn RLWord) := ⟨_, _, ok_lword F_s_law_word T C_pick, b_s_law_word, F_s_law_word.kp, m_s_law_word⟩
  have C_rooms : CallD l.prog w K mg base "_law_rooms" 3 ["deck"] (spDk [t1, t2, t3, t4, t5, t6] kn RRooms) := ⟨_, _, ok_rooms F_s_law_rooms T C_draw C_pick, b_s_law_rooms, F_s_law_rooms.kp, m_s_law_rooms⟩
  have C_isPl : CallD l.prog w K mg base "_law_is_playable" 4 ["machine", "n", "most", "standings"] (spD' [t1, t2, t3, t4, t5, t6] RIsPl) := ⟨_, _, ok_isPl F_s_law_is_playable T C_lval C_lmany, b_s_law_is_playable, F_s_law_is_playable.kp, m_s_law_is_playable⟩
  have C_playable : CallD l.prog w K mg base "_law_playable" 5 ["deck", "most", "standings"] (spDk [t1, t2, t3, t4, t5, t6] kn RPlay) := ⟨_, _, ok_playable F_s_law_playable T C_pick C_draw C_drawn C_lword C_rooms C_rules C_isPl, b_s_law_playable, F_s_law_playable.kp, m_s_law_playable⟩
  have kw_s_depth : KBinds K fd_s_depth ["machine"] ["machine"] kg1 kv1 := by
    obtain ⟨_, _, _, _, _, _, _, _, _, rfl, _⟩ := F_s_depth.ex
    refine ⟨fun s us ws _ hl => ?_, kr1⟩
    cases us with
    | cons _ _ => cases hl
    | nil =>
      match ws, hl with
      | [_], _ => exact .of_eq rfl
  exact ok_law sys F_s_law T C_deck C_pick C_draw C_lval C_llg C_ldepth C_playable C_lfirst C_orbit C_first C_next C_val C_acc C_depth ⟨_, _, ok_depth F_s_depth T C_chkM C_sumof C_prodof C_const C_dig, b_s_depth, kw_s_depth, F_s_depth.kp, m_s_depth⟩
end Zk

open PySem PySem.W PyProof.Rows in
set_option maxRecDepth 100000 in
set_option maxHeartbeats 0 in
theorem PySem.Challenge.cw_narrowplay_k51_depths_bound_all_standing_holds : PySem.Challenge.rw_narrowplay_k51_depths_bound_all_standing.Holds := by
  w_on; o_law; k_head; (case hw => w_witness2)
  k_fill
  refine Zk.walk_topT (l := PySem.Challenge.rw_narrowplay_k51_depths_bound_all_standing) (n := 63) (x := "script") rfl (by decide) rfl (by decide +kernel) (fun w h Y => PySem.W.kIn_of Y) ?F
  case F =>
    intro w mean mg fb fa h KX T hmg
    refine' Zk.all_mk KX T hmg ?hn ?q1 ?q2 ?q3 ?q4 ?q5 ?q6
      (Zk.defF_mk ?a_s_is_integer ?l_s_is_integer ?c_s_is_integer ?k_s_is_integer)
      (Zk.defF_mk ?a_s_is_letter ?l_s_is_letter ?c_s_is_letter ?k_s_is_letter)
      (Zk.defF_mk ?a_s_is_ascending ?l_s_is_ascending ?c_s_is_ascending ?k_s_is_ascending)
      (Zk.defF_mk ?a_s_is_word ?l_s_is_word ?c_s_is_word ?k_s_is_word)
      (Zk.defF_mk ?a_s_is_poly ?l_s_is_poly ?c_s_is_poly ?k_s_is_poly)
      (Zk.defF_mk ?a_s_is_pair ?l_s_is_pair ?c_s_is_pair ?k_s_is_pair)
      (Zk.defF_mk ?a_s_value_at ?l_s_value_at ?c_s_value_at ?k_s_value_at)
      (Zk.defF_mk ?a_s_power_of ?l_s_power_of ?c_s_power_of ?k_s_power_of)
      (Zk.defF_mk ?a_s_sum_of ?l_s_sum_of ?c_s_sum_of ?k_s_sum_of)
      (Zk.defF_mk ?a_s_product_of ?l_s_product_of ?c_s_product_of ?k_s_product_of)
      (Zk.defF_mk ?a_s_check_both ?l_s_check_both ?c_s_check_both ?k_s_check_both)
      (Zk.defF_mk ?a_s_gathered ?l_s_gathered ?c_s_gathered ?k_s_gathered)
      (Zk.defF_mk ?a_s_constant ?l_s_constant ?c_s_constant ?k_s_constant)
      (Zk.defF_mk ?a_s_is_machine ?l_s_is_machine ?c_s_is_machine ?k_s_is_machine)
      (Zk.defF_mk ?a_s_is_state ?l_s_is_state ?c_s_is_state ?k_s_is_state)
      (Zk.defF_mk ?a_s_is_rule ?l_s_is_rule ?c_s_is_rule ?k_s_is_rule)
      (Zk.defF_mk ?a_s_check_machine ?l_s_check_machine ?c_s_check_machine ?k_s_check_machine)
      (Zk.defF_mk ?a_s_check_machine_and_word ?l_s_check_machine_and_word ?c_s_check_machine_and_word ?k_s_check_machine_and_word)
      (Zk.defF_mk ?a_s_depth ?l_s_depth ?c_s_depth ?k_s_depth)
      (Zk.defF_mk ?a_s_digits ?l_s_digits ?c_s_digits ?k_s_digits)
      (Zk.defF_mk ?a_s_first_standing ?l_s_first_standing ?c_s_first_standing ?k_s_first_standing)
      (Zk.defF_mk ?a_s_accepts ?l_s_accepts ?c_s_accepts ?k_s_accepts)
      (Zk.defF_mk ?a_s_is_of_machine ?l_s_is_of_machine ?c_s_is_of_machine ?k_s_is_of_machine)
      (Zk.defF_mk ?a_s_check_standing ?l_s_check_standing ?c_s_check_standing ?k_s_check_standing)
      (Zk.defF_mk ?a_s_next_standing ?l_s_next_standing ?c_s_next_standing ?k_s_next_standing)
      (Zk.defF_mk ?a_s_standing_after ?l_s_standing_after ?c_s_standing_after ?k_s_standing_after)
      (Zk.defF_mk ?a_sDeck ?l_sDeck ?c_sDeck ?k_sDeck)
      (Zk.defF_mk ?a_sDraw ?l_sDraw ?c_sDraw ?k_sDraw)
      (Zk.defF_mk ?a_sPick ?l_sPick ?c_sPick ?k_sPick)
      (Zk.defF_mk ?a_s_law_value ?l_s_law_value ?c_s_law_value ?k_s_law_value)
      (Zk.defF_mk ?a_s_law_times ?l_s_law_times ?c_s_law_times ?k_s_law_times)
      (Zk.defF_mk ?a_s_law_plus ?l_s_law_plus ?c_s_law_plus ?k_s_law_plus)
      (Zk.defF_mk ?a_s_law_lg ?l_s_law_lg ?c_s_law_lg ?k_s_law_lg)
      (Zk.defF_mk ?a_s_law_depth ?l_s_law_depth ?c_s_law_depth ?k_s_law_depth)
      (Zk.defF_mk ?a_s_law_many ?l_s_law_many ?c_s_law_many ?k_s_law_many)
      (Zk.defF_mk ?a_s_law_first ?l_s_law_first ?c_s_law_first ?k_s_law_first)
      (Zk.defF_mk ?a_s_law_next ?l_s_law_next ?c_s_law_next ?k_s_law_next)
      (Zk.defF_mk ?a_s_law_orbit ?l_s_law_orbit ?c_s_law_orbit ?k_s_law_orbit)
      (Zk.defF_mk ?a_s_law_signs ?l_s_law_signs ?c_s_law_signs ?k_s_law_signs)
      (Zk.defF_mk ?a_s_law_rules ?l_s_law_rules ?c_s_law_rules ?k_s_law_rules)
      (Zk.defF_mk ?a_s_law_drawn ?l_s_law_drawn ?c_s_law_drawn ?k_s_law_drawn)
      (Zk.defF_mk ?a_s_law_word ?l_s_law_word ?c_s_law_word ?k_s_law_word)
      (Zk.defF_mk ?a_s_law_rooms ?l_s_law_rooms ?c_s_law_rooms ?k_s_law_rooms)
      (Zk.defF_mk ?a_s_law_is_playable ?l_s_law_is_playable ?c_s_law_is_playable ?k_s_law_is_playable)
      (Zk.defF_mk ?a_s_law_playable ?l_s_law_playable ?c_s_law_playable ?k_s_law_playable)
      (Zk.defF_mk ?a_s_law ?l_s_law ?c_s_law ?k_s_law)
      ?z_Exception ?z_all ?z_bool ?z_dict ?z_int ?z_isinstance ?z_len ?z_list ?z_max ?z_min ?z_range ?z_repr ?z_sorted ?z_str ?z_sum ?z_tuple
    (case hn => rfl)
    (case q1 => decide +kernel)
    (case q2 => decide +kernel)
    (case q3 => decide +kernel)
    (case q4 => decide +kernel)
    (case q5 => decide +kernel)
    (case q6 => decide +kernel)
    (case a_s_is_integer => k_is)
    (case l_s_is_integer => k_is)
    (case c_s_is_integer => k_is)
    (case k_s_is_integer => k_is)
    (case a_s_is_letter => k_is)
    (case l_s_is_letter => k_is)
    (case c_s_is_letter => k_is)
    (case k_s_is_letter => k_is)
    (case a_s_is_ascending => k_is)
    (case l_s_is_ascending => k_is)
    (case c_s_is_ascending => k_is)
    (case k_s_is_ascending => k_is)
    (case a_s_is_word => k_is)
    (case l_s_is_word => k_is)
    (case c_s_is_word => k_is)
    (case k_s_is_word => k_is)
    (case a_s_is_poly => k_is)
    (case l_s_is_poly => k_is)
    (case c_s_is_poly => k_is)
    (case k_s_is_poly => k_is)
    (case a_s_is_pair => k_is)
    (case l_s_is_pair => k_is)
    (case c_s_is_pair => k_is)
    (case k_s_is_pair => k_is)
    (case a_s_value_at => k_is)
    (case l_s_value_at => k_is)
    (case c_s_value_at => k_is)
    (case k_s_value_at => k_is)
    (case a_s_power_of => k_is)
    (case l_s_power_of => k_is)
    (case c_s_power_of => k_is)
    (case k_s_power_of => k_is)
    (case a_s_sum_of => k_is)
    (case l_s_sum_of => k_is)
    (case c_s_sum_of => k_is)
    (case k_s_sum_of => k_is)
    (case a_s_product_of => k_is)
    (case l_s_product_of => k_is)
    (case c_s_product_of => k_is)
    (case k_s_product_of => k_is)
    (case a_s_check_both => k_is)
    (case l_s_check_both => k_is)
    (case c_s_check_both => k_is)
    (case k_s_check_both => k_is)
    (case a_s_gathered => k_is)
    (case l_s_gathered => k_is)
    (case c_s_gathered => k_is)
    (case k_s_gathered => k_is)
    (case a_s_constant => k_is)
    (case l_s_constant => k_is)
    (case c_s_constant => k_is)
    (case k_s_constant => k_is)
    (case a_s_is_machine => k_is)
    (case l_s_is_machine => k_is)
    (case c_s_is_machine => k_is)
    (case k_s_is_machine => k_is)
    (case a_s_is_state => k_is)
    (case l_s_is_state => k_is)
    (case c_s_is_state => k_is)
    (case k_s_is_state => k_is)
    (case a_s_is_rule => k_is)
    (case l_s_is_rule => k_is)
    (case c_s_is_rule => k_is)
    (case k_s_is_rule => k_is)
    (case a_s_check_machine => k_is)
    (case l_s_check_machine => k_is)
    (case c_s_check_machine => k_is)
    (case k_s_check_machine => k_is)
    (case a_s_check_machine_and_word => k_is)
    (case l_s_check_machine_and_word => k_is)
    (case c_s_check_machine_and_word => k_is)
    (case k_s_check_machine_and_word => k_is)
    (case a_s_depth => k_is)
    (case l_s_depth => k_is)
    (case c_s_depth => k_is)
    (case k_s_depth => k_is)
    (case a_s_digits => k_is)
    (case l_s_digits => k_is)
    (case c_s_digits => k_is)
    (case k_s_digits => k_is)
    (case a_s_first_standing => k_is)
    (case l_s_first_standing => k_is)
    (case c_s_first_standing => k_is)
    (case k_s_first_standing => k_is)
    (case a_s_accepts => k_is)
    (case l_s_accepts => k_is)
    (case c_s_accepts => k_is)
    (case k_s_accepts => k_is)
    (case a_s_is_of_machine => k_is)
    (case l_s_is_of_machine => k_is)
    (case c_s_is_of_machine => k_is)
    (case k_s_is_of_machine => k_is)
    (case a_s_check_standing => k_is)
    (case l_s_check_standing => k_is)
    (case c_s_check_standing => k_is)
    (case k_s_check_standing => k_is)
    (case a_s_next_standing => k_is)
    (case l_s_next_standing => k_is)
    (case c_s_next_standing => k_is)
    (case k_s_next_standing => k_is)
    (case a_s_standing_after => k_is)
    (case l_s_standing_after => k_is)
    (case c_s_standing_after => k_is)
    (case k_s_standing_after => k_is)
    (case a_sDeck => k_is)
    (case l_sDeck => k_is)
    (case c_sDeck => k_is)
    (case k_sDeck => k_is)
    (case a_sDraw => k_is)
    (case l_sDraw => k_is)
    (case c_sDraw => k_is)
    (case k_sDraw => k_is)
    (case a_sPick => k_is)
    (case l_sPick => k_is)
    (case c_sPick => k_is)
    (case k_sPick => k_is)
    (case a_s_law_value => k_is)
    (case l_s_law_value => k_is)
    (case c_s_law_value => k_is)
    (case k_s_law_value => k_is)
    (case a_s_law_times => k_is)
    (case l_s_law_times => k_is)
    (case c_s_law_times => k_is)
    (case k_s_law_times => k_is)
    (case a_s_law_plus => k_is)
    (case l_s_law_plus => k_is)
    (case c_s_law_plus => k_is)
    (case k_s_law_plus => k_is)
    (case a_s_law_lg => k_is)
    (case l_s_law_lg => k_is)
    (case c_s_law_lg => k_is)
    (case k_s_law_lg => k_is)
    (case a_s_law_depth => k_is)
    (case l_s_law_depth => k_is)
    (case c_s_law_depth => k_is)
    (case k_s_law_depth => k_is)
    (case a_s_law_many => k_is)
    (case l_s_law_many => k_is)
    (case c_s_law_many => k_is)
    (case k_s_law_many => k_is)
    (case a_s_law_first => k_is)
    (case l_s_law_first => k_is)
    (case c_s_law_first => k_is)
    (case k_s_law_first => k_is)
    (case a_s_law_next => k_is)
    (case l_s_law_next => k_is)
    (case c_s_law_next => k_is)
    (case k_s_law_next => k_is)
    (case a_s_law_orbit => k_is)
    (case l_s_law_orbit => k_is)
    (case c_s_law_orbit => k_is)
    (case k_s_law_orbit => k_is)
    (case a_s_law_signs => k_is)
    (case l_s_law_signs => k_is)
    (case c_s_law_signs => k_is)
    (case k_s_law_signs => k_is)
    (case a_s_law_rules => k_is)
    (case l_s_law_rules => k_is)
    (case c_s_law_rules => k_is)
    (case k_s_law_rules => k_is)
    (case a_s_law_drawn => k_is)
    (case l_s_law_drawn => k_is)
    (case c_s_law_drawn => k_is)
    (case k_s_law_drawn => k_is)
    (case a_s_law_word => k_is)
    (case l_s_law_word => k_is)
    (case c_s_law_word => k_is)
    (case k_s_law_word => k_is)
    (case a_s_law_rooms => k_is)
    (case l_s_law_rooms => k_is)
    (case c_s_law_rooms => k_is)
    (case k_s_law_rooms => k_is)
    (case a_s_law_is_playable => k_is)
    (case l_s_law_is_playable => k_is)
    (case c_s_law_is_playable => k_is)
    (case k_s_law_is_playable => k_is)
    (case a_s_law_playable => k_is)
    (case l_s_law_playable => k_is)
    (case c_s_law_playable => k_is)
    (case k_s_law_playable => k_is)
    (case a_s_law => k_is)
    (case l_s_law => k_is)
    (case c_s_law => k_is)
    (case k_s_law => k_is)
    (case z_Exception => k_is)
    (case z_all => k_is)
    (case z_bool => k_is)
    (case z_dict => k_is)
    (case z_int => k_is)
    (case z_isinstance => k_is)
    (case z_len => k_is)
    (case z_list => k_is)
    (case z_max => k_is)
    (case z_min => k_is)
    (case z_range => k_is)
    (case z_repr => k_is)
    (case z_sorted => k_is)
    (case z_str => k_is)
    (case z_sum => k_is)
    (case z_tuple => k_is)

