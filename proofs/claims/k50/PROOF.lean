import PyProof.Rows.All
import Wide.All
import OpenK.AllK
import Wide.FinOn
import HandS.ForMost
import HandS.EndBits
import HandS.Wide
import HandS.IsInst
import PyProof.ReprRoads
import PyProof.ReprBulk
import KE.DataCmp
import KE.SortData
import HandS.SortRule
import HandS.TupAny
import HandS.CallLocal
import HandS.ForExc
import HandS.ExcInit
import KE.KExcSuper
import KE.KExcInit
import HandS.ExcIs
import HandS.ExcField
import KE.KExcIs
import HandS.ExcValue
import HandS.WordsExc
import HandS.Walk
import HandS.Text
import HandS.Codes
import HandS.FStr
import HandS.StrMore
import PySem.Challenge.RW_fewturnsover_k50_runs_written
set_option Elab.async false
set_option linter.all false
set_option maxRecDepth 100000
set_option maxHeartbeats 4000000
namespace G0
open PySem PySem.Spec PyProof.Rows L2

/-! what repr tells of data of any depth -/
mutual
theorem nodict {K : PySem.W.Frag} {H : Hp} : ∀ (d : PyData) (v : V), Dp K H v d → d.hasDict = false
  | .none, _, _ => by simp [PyData.hasDict]
  | .bool _, _, _ => by simp [PyData.hasDict]
  | .int _, _, _ => by simp [PyData.hasDict]
  | .str _, _, _ => by simp [PyData.hasDict]
  | .list ds, _, h => by
    cases h with
    | lst _ ha => simp only [PyData.hasDict]; exact nodictAll ds _ ha
  | .tuple ds, _, h => by
    cases h with
    | tup _ ha => simp only [PyData.hasDict]; exact nodictAll ds _ ha
  | .dict _, _, h => by cases h
theorem nodictAll {K : PySem.W.Frag} {H : Hp} : ∀ (ds : List PyData) (vs : List V), DpAll K H vs ds → PyData.hasDictAll ds = false
  | [], _, _ => by simp [PyData.hasDictAll]
  | d :: ds, _, h => by
    cases h with
    | cons h1 h2 => simp only [PyData.hasDictAll, nodict d _ h1, nodictAll ds _ h2, Bool.or_self]
end

section
variable {X : Cx}
/-- repr(x) where nothing is being shown around -/
def rRepr (K : PySem.W.Frag) : List V → Hp → VK → Prop := fun xs H Q =>
  ∃ x d, xs = [x] ∧ Dp K H x d ∧ d.showable = true ∧ d.depth ≤ 60 ∧ d.shown.length ≤ sizeLine ∧ Q (.str d.shown) H
theorem call_reprD (gu : X.A.guards = some []) (ro : X.A.units + 64 < cLine) : CallR X (.builtin "repr") (rRepr X.K) := by
  intro pins s σ H xs us Q I rel hyp
  obtain ⟨x, d, rfl, dp, sh, dep, siz, fin⟩ := hyp
  obtain ⟨u, rfl, ru⟩ := vals1 rel
  cases dp with
  | non =>
    cases ru
    rw [PyData.shown_none] at fin
    exact PySem.P.repr_of_none ⟨.str _, H, I.tok _, ⟨_, rfl⟩, fin⟩
  | bl b =>
    cases ru
    rw [PyData.shown_bool] at fin
    exact PySem.P.repr_of_bool ⟨.str _, H, I.tok _, ⟨_, rfl⟩, by cases b <;> exact fin⟩
  | int i =>
    obtain ⟨t, rfl⟩ := ru
    rw [PyData.shown_int] at fin
    exact PySem.P.repr_of_int (by simpa [PyData.showable] using sh) ⟨.str _, H, I.tok _, ⟨_, rfl⟩, fin⟩
  | str z =>
    obtain ⟨t, rfl⟩ := ru
    rw [PyData.shown_str] at fin siz
    exact PySem.P.repr_of_str ⟨.str _, H, I.tok _, ⟨_, rfl⟩, fin⟩ siz
  | lst hs ha =>
    have hd := nodict _ _ (Dp.lst hs ha)
    obtain ⟨as, rd⟩ := Dp.reads I _ _ _ (Dp.lst hs ha) ru
    cases ru
    exact repr_of_reads' rd sh (fun q => absurd (q.symm.trans hd) (by decide)) gu (by omega) (fun _ _ e => e) (fun h' t k keep => ⟨.str _, H, I.kept keep, ⟨_, rfl⟩, fin⟩) siz
  | tup hs ha =>
    have hd := nodict _ _ (Dp.tup hs ha)
    obtain ⟨as, rd⟩ := Dp.reads I _ _ _ (Dp.tup hs ha) ru
    cases ru
    exact repr_of_reads' rd sh (fun q => absurd (q.symm.trans hd) (by decide)) gu (by omega) (fun _ _ e => e) (fun h' t k keep => ⟨.str _, H, I.kept keep, ⟨_, rfl⟩, fin⟩) siz
end
end G0

set_option maxHeartbeats 4000000
namespace G1
open PySem PySem.Spec PyProof.Rows L2

/-- the law's own def, run where nothing is around: its context knows that no repr is under way -/
structure LawDef (P : Program) (w : World) (K : PySem.W.Frag) (mg : Str → Option Value) (k : Nat) (fa : Addr) (x : Str) (want : Hp → Addr → List Int → Prop) : Prop where
  ex : ∃ (fd : FuncData) (nm ql : Str) (pr : Arguments) (bd : List Stmt) (sc : Scope) (dV kV doc pm cdv ct oc : Value) (an od : Option Addr) (osl : Array (Option Value)) (N : List Str),
    fd = PySem.W.fnOf nm ql pr bd sc dV kV doc pm an cdv ct ∧ K.lookup fa = some ⟨oc, od, .func fd, osl⟩ ∧ PySem.W.codeIn K cdv ql = true ∧ FnScope N [x] sc ∧
    (∀ (s : Shared) (u : Value), BindsTo s fd ⟨[u], []⟩ [(x, u)]) ∧
    ∀ base : Heap, K.In base → base.Ns mainGlobals mg → ∀ (s : Shared) (H : Hp) (a : Addr) (ns : List Int), want H a ns →
      Room k (callerA.deeper (envOfC ql sc s.heap.objs.size fa cdv)) →
      ∃ t, PSs (cxOf CX0 P w K mg base N ql sc fa cdv callerA [] s H (fun _ _ _ => False)) bd t ∧ t { nx := fun _ _ => False, rt := fun v _ => v = .bl true } (start N [.ref a]) H

section
variable {P : Program} {w : World} {K : PySem.W.Frag} {mg : Str → Option Value} {k : Nat} {fa : Addr} {x : Str} {want : Hp → Addr → List Int → Prop}
theorem LawDef.run (L : LawDef P w K mg k fa x want) {base : Heap} (hk : K.In base) (hm : base.Ns mainGlobals mg) {s : Shared} {H : Hp} {a : Addr} {ns : List Int} (hw : want H a ns) (ro : Room (k + 1) callerA)
    (e0 : Env0 P w K mg base callerA [] s H) :
    codeAny (model P w) callerA (.call (.ref fa) ⟨[.ref a], []⟩) (CR CX0 [] P w H s (fun v _ => v = .bl true) fun _ _ _ => False) s := by
  obtain ⟨fd, nm, ql, pr, bd, sc, dV, kV, doc, pm, cdv, ct, oc, an, od, osl, N, rfl, at1, cod, S, bnd, bod⟩ := L.ex
  have inS : K.In s.heap := e0.mod.kin.keeps fun b o e => (e0.bs b o e).1
  have noL : s.heap.NoLimit := e0.mod.nolimit.keeps fun b o e => (e0.bs b o e).1
  refine codeAny_call_function ro.depth (inS _ _ at1) rfl S.co S.gen rfl (PySem.W.codeRec_of inS cod) (bnd s (.ref a) _ _ _ _ ?_)
  refine wpAny_newFunctionEnv_cells S.kind (fun ⟨n, v⟩ hy => ?_) fun env he s1 y => ?_
  · have hn : n ∈ [x] := by
      have h1 := List.mem_singleton.mp hy
      rw [(Prod.mk.inj h1).1]
      exact List.mem_singleton.mpr rfl
    rcases S.par n hn with q | q
    · exact Or.inl q
    · exact Or.inr ⟨q, PySem.W.cellsFrom_some _ _ _ (Or.inl q)⟩
  subst he
  refine ⟨noL.keeps y.toInCall.keep, codeAny_func ?_⟩
  obtain ⟨t, pt, tt⟩ := bod base hk hm s H a ns hw (ro.deeper _)
  have I : Inv (cxOf CX0 P w K mg base N ql sc fa cdv callerA [] s H fun _ _ _ => False) [] (start N [.ref a]) H s1 := inv_start S ro.hd e0 rfl (.cons rfl .nil) y
  refine wpAny_mono (pt.run [] s1 _ H _ I tt) (fun fl s2 h2 => ?_) fun e s2 h2 => h2
  cases fl with
  | ret u =>
    obtain ⟨v, σ2, H2, J, rv, q⟩ := h2
    exact ⟨v, H2, J.os, J.bare, J.base, J.hok, rv, q⟩
  | next =>
    obtain ⟨_, _, _, q⟩ := h2
    exact q.elim
  | brk =>
    obtain ⟨_, _, _, q⟩ := h2
    exact q.elim
  | cont =>
    obtain ⟨_, _, _, q⟩ := h2
    exact q.elim
end
end G1

set_option maxHeartbeats 4000000
namespace G2
open PySem PySem.Spec PyProof.Rows L2 G1
section
variable {P : Program} {w : World} {K : PySem.W.Frag} {mg mb : Str → Option Value} {k : Nat} {fa a : Addr} {x : Str} {want : Hp → Addr → List Int → Prop} {S0 : Shared} {vs : List Value} {ns : List Int}
theorem not_in_nil {α : Type} {b : α} {p : Prop} (h : b ∈ ([] : List α)) : p := absurd h List.not_mem_nil
/-- from the run to what a row asks of it -/
theorem told_true {H : Hp} (fz : Only H) (hok : HOk P w H S0.heap) {r : Result} {S1 : Shared} (h : CR CX0 [] P w H S0 (fun v _ => v = .bl true) (fun _ _ _ => False) r S1) :
    r = .ok (.ret (.bool true)) ∧ OldK S0.heap S1.heap ∧ S1.os = S0.os ∧ AllBare S1.gens := by
  match r, h with
  | .error e, h => exact False.elim h
  | .ok .next, h => exact False.elim h
  | .ok .brk, h => exact False.elim h
  | .ok .cont, h => exact False.elim h
  | .ok (.ret u), ⟨v, H1, os, br, un, hk1, ru, vt⟩ =>
    have vt2 : v = .bl true := vt
    rw [vt2] at ru
    have ru2 : u = Value.bool true := ru
    subst ru2
    refine ⟨rfl, OldK.of_keep fun b o at0 => ?_, os, br⟩
    rcases fz b with free | ⟨ob, xs, frozen⟩
    · exact un.keep b o at0 free (fun z => not_in_nil z) (fun z => not_in_nil z)
    · have was := (hok b _ frozen).1
      have is := (hk1 b _ (un.frzs b ob _ frozen)).1
      rw [at0] at was
      cases was
      exact is
/-- the heap without the script -/
theorem bare_base (KX : K.In S0.heap) (gl : S0.heap.Ns mainGlobals mg) (bu : S0.heap.Ns builtinsNs mb) (bb : ∀ z : Str, z ≠ "__name__" → mb z = bootBuiltins z) (nl : S0.heap.NoLimit)
    (ob : S0.heap.get? a = some { cls := .type "list", data := .seq vs.toArray }) {H : Hp} (own : ∀ b, H b ≠ none → b = a) (out : H a ≠ none → K.lookup a = none) : Mod K mg (hidT S0.heap H) := by
  have plain : ∀ {b : Addr} {m : Str → Option Value}, S0.heap.Ns b m → (hidT S0.heap H).Ns b m := by
    rintro b m ⟨o, es, ep, at0, dat, more⟩
    refine ⟨o, es, ep, hidT_get at0 ?_, dat, more⟩
    cases hb : H b with
    | none => rfl
    | some u =>
      have ba : b = a := own b (by rw [hb]; exact Option.some_ne_none u)
      rw [ba, ob] at at0
      cases at0
      exact absurd dat (by intro z; cases z)
  refine ⟨fun b o lk => hidT_get (KX b o lk) ?_, plain gl, ⟨mb, plain bu, bb⟩, ?_⟩
  · cases hb : H b with
    | none => rfl
    | some u =>
      have ne : H b ≠ none := by rw [hb]; exact Option.some_ne_none u
      have ba : b = a := own b ne
      subst ba
      rw [out ne] at lk
      cases lk
  · obtain ⟨mc, n1, n2⟩ := nl
    exact ⟨mc, plain n1, n2⟩
theorem law_at (KX : K.In S0.heap) (gl : S0.heap.Ns mainGlobals mg) (bu : S0.heap.Ns builtinsNs mb) (bb : ∀ z : Str, z ≠ "__name__" → mb z = bootBuiltins z) (nl : S0.heap.NoLimit) (gn : S0.gens = #[])
    (ob : S0.heap.get? a = some { cls := .type "list", data := .seq vs.toArray }) (ia : IntsAre vs ns) (ln : ns.length ≤ sizeLine) (ro : Room (k + 1) callerA) (L : LawDef P w K mg k fa x want)
    (hw : ∀ H : Hp, SqL K H a (ns.map V.int) → want H a ns) :
    codeAny (model P w) callerA (.call (.ref fa) ⟨[.ref a], []⟩) (fun r S1 => r = .ok (.ret (.bool true)) ∧ OldK S0.heap S1.heap ∧ S1.os = S0.os ∧ AllBare S1.gens) S0 := by
  have lenV := ia.length
  have go : ∀ H : Hp, Only H → SqL K H a (ns.map V.int) → HOk P w H S0.heap → (∀ b, H b ≠ none → b = a) → (H a ≠ none → K.lookup a = none) →
      codeAny (model P w) callerA (.call (.ref fa) ⟨[.ref a], []⟩) (fun r S1 => r = .ok (.ret (.bool true)) ∧ OldK S0.heap S1.heap ∧ S1.os = S0.os ∧ AllBare S1.gens) S0 := by
    intro H fz sq hok own out
    have M := bare_base KX gl bu bb nl ob own out
    have e0 : Env0 P w K mg (hidT S0.heap H) callerA [] S0 H :=
      { frames := rfl, mod := M, bs := fun b o e => of_hidT e, bsz := Nat.le_of_eq (hidT_size _ _), funs := trivial, frf := fun b z => not_in_nil (show b ∈ ([] : List Addr) from z), hok := hok, bare := .of_eq gn }
    exact codeAny_mono (L.run M.kin M.glob (hw H sq) ro e0) fun r S1 h => told_true fz hok h
  by_cases hk : K.lookup a = none
  · let o0 : Obj := { cls := .type "list", data := .seq vs.toArray }
    let H0 : Hp := fun b => if b = a then some (.frz o0 (.lst (ns.map V.int))) else none
    have h1 : H0 a = some (.frz o0 (.lst (ns.map V.int))) := if_pos rfl
    have h2 : ∀ b, b ≠ a → H0 b = none := fun b hb => if_neg hb
    refine go H0 (fun b => ?_) (Or.inl (Or.inr ⟨o0, h1⟩)) (fun b u z => ?_) (fun b z => Decidable.byContradiction fun hb => z (h2 b hb)) (fun _ => hk)
    · by_cases hb : b = a
      · subst hb
        exact Or.inr ⟨_, _, h1⟩
      · exact Or.inl (h2 b hb)
    · by_cases hb : b = a
      · subst hb
        rw [h1] at z
        cases z
        exact ⟨ob, by rw [List.length_map]; exact ln, vs, _, vals_ints ia, ob⟩
      · rw [h2 b hb] at z
        cases z
  · obtain ⟨o, lk⟩ := Option.ne_none_iff_exists'.mp hk
    have same := KX a o lk
    rw [ob] at same
    cases same
    refine go (fun _ => none) (fun _ => Or.inl rfl) (Or.inr ⟨_, vs.toArray, _, lk, rfl, rfl, rfl, by rw [List.size_toArray, lenV]; exact ln, by simpa using vals_ints ia⟩) (fun b u z => by cases z) (fun b z => absurd rfl z) (fun z => absurd rfl z)
end
/-- what k_head leaves, from the law's def -/
theorem walk_G {l : PySem.W.OpenLaw} {n k : Nat} {q : Program} {loose : List Str} {XP : (Str → Option Value) → Heap → Prop} {YP : World → Heap → Prop} {d : DefRec} {K : Params → PySem.W.Frag} {x : Str} (want : PySem.W.Frag → Hp → Addr → List Int → Prop)
    (hn : l.most = some n) (hz : n ≤ sizeLine) (nodef : d.params.defaults = []) (ro : Room (k + 1) callerA) (hY : ∀ (w : World) (h : Heap), YP w h → (K w.params).In h)
    (F : ∀ (w : World) (mg : Str → Option Value) (fa : Addr) (h : Heap), (K w.params).In h → h.Ns mainGlobals mg → mg d.name = some (.ref fa) → LawDef l.prog w (K w.params) mg k fa x (want (K w.params)))
    (hw : ∀ (K : PySem.W.Frag) (H : Hp) (a : Addr) (ns : List Int), ns.length ≤ n → (∀ z ∈ ns, Builtin.Int.intBits z ≤ 1048576) → SqL K H a (ns.map V.int) → want K H a ns) :
    PySem.W.WalkO q loose XP YP l.row.toRowW d [] (fun f vs => PySem.call f vs) :=
  Att.attach_callB hn nodef fun w _ _ mg _ fa _ _ _ _ _ _ _ G Y _ _ _ atl ob ia ln bits gn =>
    law_at (hY w _ Y) G.T.g G.T.b G.T.builtins G.T.nolimit gn ob ia (Nat.le_trans ln hz) ro (F w mg fa _ (hY w _ Y) G.T.g atl) fun H sq => hw _ H _ _ ln bits sq
end G2

set_option maxHeartbeats 4000000
namespace G3
open PySem PySem.Spec PyProof.Rows L2
section
variable {X : Cx} {CX : CXT} {k : Nat} {f : Addr} {fd : FuncData} {ps ks : List Str} {sp : Sp} {E : XK} {x : Str} {p pos : Pos} {kws : List Keyword} {tk : TA} {g : List Value → List Value → List Value} {gV : List V → List V → List V}
/-- f(k = v, ..), nothing by place -/
theorem pe_named (F : FnOk X.prog X.w X.K X.mg X.base CX k f fd ps sp) (ro : Room k X.A) (gl : Gl X x) (at0 : X.mg x = some (.ref f)) (kp : PySem.W.keepIn X.K (.ref f) = true) (kb : KBinds X.K fd ps ks g gV) (px : Passes CX X E) (pk : PK X kws tk)
    (h1 : (backToKw pos (keywordEach kws X.env)).all (·.1.isSome) = true := by rfl) (h2 : (backToKw pos (keywordEach kws X.env)).filterMap (·.1) = ks := by rfl) (h3 : (x == ("__debug__" : Str)) = false := by decide)
    (h4 : ((backTo pos (starEach [] X.env)).any (·.1) || (backToKw pos (keywordEach kws X.env)).any (·.1.isNone)) = false := by rfl) :
    PE X (.Call (.Name x p) [] kws pos) (tCallK sp gV E tNil tk) := by
  refine ⟨fun pins s σ H Q I hyp => wpAny_Call_Name_kw (ld_glob I gl at0 ?_ h3)⟩
  refine PySem.W.callWith_KW0 (h₀ := X.base) I.ok.mod.kin kp h1 (thn (pk.run pos pins s σ H _ I hyp) fun ws s2 ⟨zs, H2, I2, rz, q2⟩ => ⟨I2.kIn, ?_⟩) h4
  rw [h2]
  exact run_fnk (us := []) (vs := []) F ro kb px I2 .nil rz q2
end
/-! heaps -/
theorem same_refl {H : Hp} : Same H H := fun _ _ e => e
theorem same_new {H : Hp} {p : Addr} {o : HO} (h : H p = none) : Same H (upd H p o) := fun b x e => by
  rw [upd_ne (ne_of_none e h)]
  exact e
/-- a store at what was not there at first -/
theorem same_put {H H1 : Hp} {p : Addr} {o : HO} (s : Same H H1) (h : H p = none) : Same H (upd H1 p o) := fun b x e => by
  rw [upd_ne (ne_of_none e h)]
  exact s b x e
theorem same_none {H H1 : Hp} {p : Addr} (s : Same H H1) (h : H1 p = none) : H p = none := by
  cases e : H p with
  | none => rfl
  | some o => rw [s _ _ e] at h; cases h
end G3

set_option maxHeartbeats 4000000
namespace G4
open PySem PySem.Spec PyProof.Rows L2
/-! data that is shown and compared: short leaves, no dicts -/
def nice (d : PyData) : Bool := d.showable && (d.canLay0 && d.leavesShort 13)
theorem nice_show {d : PyData} (h : nice d = true) : d.showable = true := (Bool.and_eq_true_iff.mp h).1
theorem nice_lay {d : PyData} (h : nice d = true) : d.canLay0 = true := (Bool.and_eq_true_iff.mp (Bool.and_eq_true_iff.mp h).2).1
theorem nice_short {d : PyData} (h : nice d = true) : d.leavesShort 13 = true := (Bool.and_eq_true_iff.mp (Bool.and_eq_true_iff.mp h).2).2
theorem nice_mk {d : PyData} (a : d.showable = true) (b : d.canLay0 = true) (c : d.leavesShort 13 = true) : nice d = true := by
  unfold nice
  rw [a, b, c]
  rfl
theorem nice_all : ∀ xs : List PyData, (∀ x ∈ xs, nice x = true) → PyData.showableAll xs = true ∧ PyData.canLayAll0 xs = true ∧ PyData.leavesShortAll 13 xs = true
  | [], _ => by simp only [PyData.showableAll, PyData.canLayAll0, PyData.leavesShortAll]; exact ⟨trivial, trivial, trivial⟩
  | x :: xs, h => by
    have hx := h x List.mem_cons_self
    have ih := nice_all xs fun y hy => h y (List.mem_cons_of_mem _ hy)
    simp only [PyData.showableAll, PyData.canLayAll0, PyData.leavesShortAll, nice_show hx, nice_lay hx, nice_short hx, ih.1, ih.2.1, ih.2.2, Bool.and_self]
    exact ⟨trivial, trivial, trivial⟩
theorem nice_list {xs : List PyData} (h : ∀ x ∈ xs, nice x = true) : nice (.list xs) = true := by
  have q := nice_all xs h
  exact nice_mk (by simp only [PyData.showable]; exact q.1) (by simp only [PyData.canLay0]; exact q.2.1) (by simp only [PyData.leavesShort]; exact q.2.2)
theorem nice_tuple {xs : List PyData} (h : ∀ x ∈ xs, nice x = true) : nice (.tuple xs) = true := by
  have q := nice_all xs h
  exact nice_mk (by simp only [PyData.showable]; exact q.1) (by simp only [PyData.canLay0]; exact q.2.1) (by simp only [PyData.leavesShort]; exact q.2.2)
theorem nice_none : nice .none = true := nice_mk (by simp only [PyData.showable]) (by simp only [PyData.canLay0]) (by simp only [PyData.leavesShort])
theorem nice_bool (b : Bool) : nice (.bool b) = true := nice_mk (by simp only [PyData.showable]) (by simp only [PyData.canLay0]) (by simp only [PyData.leavesShort])
theorem int_few : ∀ n : Nat, n < 200 → nice (.int (n - 100)) = true := by decide +kernel
theorem nice_int {i : Int} (h : -100 ≤ i) (h2 : i < 100) : nice (.int i) = true := by
  have q := int_few (i + 100).toNat (by omega)
  have e : (((i + 100).toNat : Nat) : Int) - 100 = i := by omega
  rw [e] at q
  exact q
theorem depth_all {k : Nat} : ∀ xs : List PyData, (∀ x ∈ xs, x.depth ≤ k) → PyData.depthAll xs ≤ k
  | [], _ => by simp only [PyData.depthAll]; exact Nat.zero_le _
  | x :: xs, h => by
    simp only [PyData.depthAll]
    exact Nat.max_le.mpr ⟨h x List.mem_cons_self, depth_all xs fun y hy => h y (List.mem_cons_of_mem _ hy)⟩
theorem depth_list {k : Nat} {xs : List PyData} (h : ∀ x ∈ xs, x.depth ≤ k) : (PyData.list xs).depth ≤ k + 1 := by
  simp only [PyData.depth]
  exact Nat.add_le_add_right (depth_all xs h) 1
theorem depth_tuple {k : Nat} {xs : List PyData} (h : ∀ x ∈ xs, x.depth ≤ k) : (PyData.tuple xs).depth ≤ k + 1 := by
  simp only [PyData.depth]
  exact Nat.add_le_add_right (depth_all xs h) 1
theorem bulk_all {m : Nat} : ∀ xs : List PyData, (∀ x ∈ xs, x.bulk ≤ m) → PyData.bulkAll xs ≤ (m + 1) * xs.length
  | [], _ => by simp only [PyData.bulkAll]; exact Nat.zero_le _
  | x :: xs, h => by
    have h1 := h x List.mem_cons_self
    have ih := bulk_all xs fun y hy => h y (List.mem_cons_of_mem _ hy)
    simp only [PyData.bulkAll, List.length_cons]
    rw [Nat.mul_add]
    omega
theorem bulk_list {m n : Nat} {xs : List PyData} (h : ∀ x ∈ xs, x.bulk ≤ m) (hn : xs.length ≤ n) : (PyData.list xs).bulk ≤ (m + 1) * n := by
  simp only [PyData.bulk]
  exact Nat.le_trans (bulk_all xs h) (Nat.mul_le_mul_left _ hn)
theorem bulk_tuple {m n : Nat} {xs : List PyData} (h : ∀ x ∈ xs, x.bulk ≤ m) (hn : xs.length ≤ n) : (PyData.tuple xs).bulk ≤ (m + 1) * n := by
  simp only [PyData.bulk]
  exact Nat.le_trans (bulk_all xs h) (Nat.mul_le_mul_left _ hn)
theorem nice_fits {d : PyData} (h : nice d = true) (hb : d.bulk ≤ 2 ^ 20) : d.shown.length ≤ sizeLine := PyData.shown_fits_bulk (B := 13) (by decide) (by decide) (nice_short h) hb
theorem nice_shaped {d : PyData} (h : nice d = true) (hd : d.depth ≤ 60) : SeqAt.shaped d = true := by
  unfold SeqAt.shaped
  rw [nice_lay h, decide_eq_true (show d.depth ≤ 64 by omega)]
  rfl
theorem dpAll_map {α : Type} {K : PySem.W.Frag} {H : Hp} {f : α → V} {g : α → PyData} : ∀ xs : List α, (∀ x ∈ xs, Dp K H (f x) (g x)) → DpAll K H (xs.map f) (xs.map g)
  | [], _ => .nil
  | x :: xs, h => .cons (h x List.mem_cons_self) (dpAll_map xs fun y hy => h y (List.mem_cons_of_mem _ hy))
end G4

set_option maxHeartbeats 4000000
namespace G5
open PySem PySem.Spec PyProof.Rows L2 G3
/-- a def's promise where no repr is under way -/
structure FnG (P : Program) (w : World) (K : PySem.W.Frag) (mg : Str → Option Value) (base : Heap) (CX : CXT) (k : Nat) (f : Addr) (fd : FuncData) (ps : List Str) (sp : Sp) : Prop where
  len : ∀ vs H Q E, sp vs H Q E → vs.length = ps.length
  run : ∀ (A : Around) (outer : List Env) (s : Shared) (H : Hp) (args : Args) (us : List Value) (vs : List V) (Q : VK) (E : XK), A.guards = some [] → Room k A → Env0 P w K mg base A outer s H → BindsTo s fd args (ps.zip us) → Vals vs us → sp vs H Q E →
    codeAny (model P w) A (.call (.ref f) args) (CR CX outer P w H s Q E) s
theorem FnG.of {P : Program} {w : World} {K : PySem.W.Frag} {mg : Str → Option Value} {base : Heap} {CX : CXT} {k : Nat} {f : Addr} {fd : FuncData} {ps : List Str} {sp : Sp} (F : FnOk P w K mg base CX k f fd ps sp) : FnG P w K mg base CX k f fd ps sp :=
  ⟨F.len, fun A outer s H args us vs Q E _ => F.run A outer s H args us vs Q E⟩
section
variable {P : Program} {w : World} {K : PySem.W.Frag} {mg : Str → Option Value} {base : Heap} {CX : CXT}
/-- a def by its body -/
theorem body_of {x ql : Str} {st : Stmt} {f : Addr} {fd : FuncData} {N ps : List Str} {k : Nat} {sp : Sp} (F : Fun K x ql st f fd) (S : FnScope N ps (defScope st)) (len : ∀ vs H Q E, sp vs H Q E → vs.length = ps.length)
    (body : ∀ (cdv : Value) (A : Around) (outer : List Env) (s : Shared) (H : Hp) (vs : List V) (Q : VK) (E : XK), A.guards = some [] → Room k (A.deeper (envOfC ql (defScope st) s.heap.objs.size f cdv)) → sp vs H Q E →
      ∃ t, PSs (cxOf CX P w K mg base N ql (defScope st) f cdv A outer s H E) (defBody st) t ∧ t { nx := fun _ H' => Q .non H', rt := Q } (start N vs) H) : FnG P w K mg base CX (k + 1) f fd ps sp := by
  obtain ⟨oc, od, kV, doc, pm, an, cdv, ct, osl, rfl, lk, hcd⟩ := F.ex
  refine ⟨len, fun A outer s H args us vs Q E gu hr e0 hb r hyp => ?_⟩
  have inS : K.In s.heap := e0.mod.kin.keeps fun b o e => (e0.bs b o e).1
  have noL : s.heap.NoLimit := e0.mod.nolimit.keeps fun b o e => (e0.bs b o e).1
  refine codeAny_call_function hr.depth (inS _ _ lk) rfl S.co S.gen rfl (PySem.W.codeRec_of inS hcd) (hb _ _ _ _ ?_)
  refine wpAny_newFunctionEnv_cells S.kind (fun ⟨n, v⟩ hy => ?_) fun env he s1 y => ?_
  · rcases S.par n (List.of_mem_zip hy).1 with q | q
    · exact Or.inl q
    · exact Or.inr ⟨q, PySem.W.cellsFrom_some _ _ _ (Or.inl q)⟩
  subst he
  refine ⟨noL.keeps y.toInCall.keep, codeAny_func ?_⟩
  obtain ⟨t, pt, tt⟩ := body cdv A outer s H vs Q E gu (hr.deeper _) hyp
  have I : Inv (cxOf CX P w K mg base N ql (defScope st) f cdv A outer s H E) [] (start N vs) H s1 := inv_start S hr.hd e0 (len _ _ _ _ hyp) r y
  refine wpAny_mono (pt.run [] s1 _ H _ I tt) (fun fl s2 h2 => ?_) fun e s2 h2 => h2
  cases fl with
  | ret u =>
    obtain ⟨v, σ2, H2, J, rv, q⟩ := h2
    exact ⟨v, H2, J.os, J.bare, J.base, J.hok, rv, q⟩
  | next =>
    obtain ⟨σ2, H2, J, q⟩ := h2
    exact ⟨.non, H2, J.os, J.bare, J.base, J.hok, rfl, q⟩
  | brk =>
    obtain ⟨_, _, _, q⟩ := h2
    exact q.elim
  | cont =>
    obtain ⟨_, _, _, q⟩ := h2
    exact q.elim
/-- the same where nothing is raised -/
theorem body_of0 {x ql : Str} {st : Stmt} {f : Addr} {fd : FuncData} {N ps : List Str} {k : Nat} {sp : Sp} (F : Fun K x ql st f fd) (S : FnScope N ps (defScope st)) (len : ∀ vs H Q E, sp vs H Q E → vs.length = ps.length)
    (body : ∀ (cdv : Value) (A : Around) (outer : List Env) (s : Shared) (H : Hp) (vs : List V) (Q : VK) (E : XK), A.guards = some [] → Room k (A.deeper (envOfC ql (defScope st) s.heap.objs.size f cdv)) → sp vs H Q E →
      ∃ t, PSs (cxOf CX0 P w K mg base N ql (defScope st) f cdv A outer s H E).nox (defBody st) t ∧ t { nx := fun _ H' => Q .non H', rt := Q } (start N vs) H) : FnG P w K mg base CX0 (k + 1) f fd ps sp :=
  body_of F S len fun cdv A outer s H vs Q E gu hr hyp => by
    obtain ⟨t, h1, h2⟩ := body cdv A outer s H vs Q E gu hr hyp
    exact ⟨t, h1.nox, h2⟩
end
section
variable {X : Cx} {CX : CXT} {k : Nat} {f : Addr} {fd : FuncData} {ps ks : List Str} {sp : Sp} {E : XK} {x : Str} {p pos : Pos} {e : Expr} {es : List Expr} {t tk : TA} {kws : List Keyword} {g : List Value → List Value → List Value} {gV : List V → List V → List V}
theorem run_G {pins : List (Addr × Obj)} {σ : L2.St} {H : Hp} {s : Shared} {Q : VK} {us ws : List Value} {vs zs : List V} (F : FnG X.prog X.w X.K X.mg X.base CX k f fd ps sp) (gu : X.A.guards = some []) (hr : Room k X.A) (kb : KBinds X.K fd ps ks g gV) (hx : Passes CX X E)
    (I : Inv X pins σ H s) (r : Vals vs us) (rz : Vals zs ws) (hyp : sp (gV vs zs) H Q E) : wpAny (model X.prog X.w) X.A (call (.ref f) us (ks.zip ws)) (EP X pins σ Q) X.xe s := by
  have r2 := kb.rel r rz
  have hl : (g us ws).length = ps.length := by rw [← r2.length]; exact F.len _ _ _ _ hyp
  refine wpAny_call (codeAny_mono (F.run X.A X.stack s H ⟨us, ks.zip ws⟩ (g us ws) _ Q E gu hr I.env0 (kb.to s us ws I.kIn hl) r2 hyp) fun rr s' hq => ?_)
  match rr, hq with
  | .error er, z => exact hx pins σ H s er s' I z
  | .ok .next, z => exact False.elim z
  | .ok .brk, z => exact False.elim z
  | .ok .cont, z => exact False.elim z
  | .ok (.ret u), z => exact I.after z
/-- by place alone -/
theorem kb_place {K : PySem.W.Frag} (b : Binds K fd ps []) : KBinds K fd ps [] (fun us _ => us) (fun vs _ => vs) := by
  refine ⟨fun s us ws X hl => ?_, fun r1 _ => r1⟩
  have h := b s us X (by rw [List.append_nil]; exact hl)
  rw [List.append_nil] at h
  cases ws <;> exact h
theorem pe_callG (F : FnG X.prog X.w X.K X.mg X.base CX k f fd ps sp) (gu : X.A.guards = some []) (hr : Room k X.A) (hg : Gl X x) (hm : X.mg x = some (.ref f)) (hk : PySem.W.keepIn X.K (.ref f) = true) (b : Binds X.K fd ps []) (hx : Passes CX X E) (ha : PA X (e :: es) t)
    (hdb : (x == ("__debug__" : Str)) = false := by decide) (he : starEach (e :: es) X.env = (false, eval e X.env) :: starEach es X.env := by rfl) (hpl : (backTo pos (starEach es X.env)).any (·.1) = false := by rfl) :
    PE X (.Call (.Name x p) (e :: es) [] pos) (fun σ H Q => t σ H fun vs H1 => sp vs H1 Q E) := by
  refine ⟨fun pins s σ H Q I hyp => wpAny_Call_Name_kw (ld_glob I hg hm ?_ hdb)⟩
  refine PySem.W.callWith_K (h₀ := X.base) I.ok.mod.kin hk (thn (ha.run pos pins s σ H _ I hyp) fun us s1 ⟨vs, H1, I1, r, q⟩ => ⟨I1.kIn, ?_⟩) he hpl
  exact run_G (ks := []) (ws := []) (zs := []) F gu hr (kb_place b) hx I1 r .nil q
end
end G5

set_option maxHeartbeats 4000000
namespace G6
open PySem PySem.Spec PyProof.Rows L2
/-- a dict with one text for a key and the empty list behind it -/
def DictB (H : Hp) (z : Str) (d : Addr) : Prop := ∃ i, H d = some (.dK [(Sum.inr z, .ref i)]) ∧ H i = some (.lst [])
def tB (z : Str) : Str := dictText [reprText z ++ ": " ++ "[]"]
section
variable {X : Cx} {pins : List (Addr × Obj)} {σ : L2.St} {H : Hp} {s : Shared} {d : Addr} {z : Str}
structure AtB (h : Heap) (prog : Program) (w : World) (d i : Addr) (z : Str) : Prop where
  di : d ≠ i
  dict : ∃ o es n, h.get? d = some o ∧ o.cls = .type "dict" ∧ o.data = .dict es n ∧ (d == sysModules) = false ∧ ReprEntriesK prog w [i] h 0 es.toList [reprText z ++ ": " ++ "[]"]
  emp : ∃ o n, h.get? i = some o ∧ o.cls = .type "list" ∧ o.data = .seq #[] n
theorem at_b (I : Inv X pins σ H s) (hz : (reprText z).length ≤ sizeLine) (h : DictB H z d) : ∃ i, AtB s.heap X.prog X.w d i z ∧ H i = some (.lst []) := by
  obtain ⟨i, hd, hi⟩ := h
  obtain ⟨_, its, n, rv, ei⟩ := (show ObjOk X.prog X.w H s.heap i (.lst []) from I.hok i _ hi)
  cases rv
  obtain ⟨_, nsys, vs, kv, o, es, ep, eo, ex, dt, ks, prs, _⟩ := (show ObjOk X.prog X.w H s.heap d (.dK [(Sum.inr z, .ref i)]) from I.hok d _ hd)
  have hdi : d ≠ i := ne_of hd hi (by intro q; cases q)
  refine ⟨i, ⟨hdi, ⟨o, es, ep, eo, ex.1, dt, nsys, ?_⟩, ⟨_, n, ei, rfl, rfl⟩⟩, hi⟩
  match vs, kv with
  | [(k', u)], .cons r1 .nil =>
    have e1 : k' = Sum.inr z := r1.1.symm
    have e2 : u = Value.ref i := r1.2
    subst e1 e2
    generalize es.toList = l at prs ⊢
    match l, prs with
    | [e], .cons p1 p2 .nil =>
      obtain ⟨key, t, e3, e4⟩ : ∃ x t, (Sum.inr z : Key) = Sum.inr x ∧ e.key = Value.str x t := by
        rcases keyIs_shape (show keyIs (Sum.inr z) e.key = true from p1) with ⟨_, _, q, _⟩ | ⟨x, t, q1, q2⟩
        · cases q
        · exact ⟨x, t, q1, q2⟩
      cases e3
      refine .cons ?_ ?_ .nil
      · rw [e4]
        exact .of_is (ReprIs.str z t hz) _ _ _
      · rw [show e.val = Value.ref i from p2]
        exact ReprK.listEmpty ei rfl rfl
/-- repr of such a dict, and of a list of the same over and over -/
def rReprB : List V → Hp → VK → Prop := fun xs H Q => ∃ (z : Str) (d : Addr), (reprText z).length ≤ 100 ∧ (tB z).length ≤ 200 ∧ DictB H z d ∧ ((xs = [.ref d] ∧ Q (.str (tB z)) H) ∨
  ∃ (l : Addr) (n : Nat), xs = [.ref l] ∧ H l = some (.lst (List.replicate (n + 1) (.ref d))) ∧ n ≤ 100 ∧ Q (.str (listText (List.replicate (n + 1) (tB z)))) H)
theorem vals_same {d : Addr} : ∀ {n : Nat} {its : List Value}, Vals (List.replicate n (V.ref d)) its → its = List.replicate n (Value.ref d)
  | 0, _, .nil => rfl
  | n + 1, _, r => by
    rw [List.replicate_succ] at r
    cases r with
    | cons r1 r2 =>
      cases r1
      rw [vals_same r2, List.replicate_succ]
theorem call_reprB (gu : X.A.guards = some []) (ro : X.A.units + 64 < cLine) : CallR X (.builtin "repr") rReprB := by
  intro pins s σ H xs us Q I rel hyp
  obtain ⟨z, d, hz, ln, hb, hyp⟩ := hyp
  have hz2 : (reprText z).length ≤ sizeLine := Nat.le_trans hz (by decide)
  obtain ⟨i, B, hi⟩ := at_b I hz2 hb
  obtain ⟨o, es, n, eo, ec, ed, nsys, ent⟩ := B.dict
  have one : ReprK X.prog X.w [d, i] s.heap 1 (.ref d) (tB z) := ReprK.dict eo ec ed nsys (by simp [B.di]) ent
  rcases hyp with ⟨rfl, fin⟩ | ⟨l, n, rfl, hl, hn, fin⟩
  · obtain ⟨u, rfl, ru⟩ := vals1 rel
    obtain rfl : u = Value.ref d := ru
    refine call_repr_slot (by omega) ⟨o, eo, ec⟩ F.slot_dict_repr (call_dict_reprK (d := 0) eo ec ed nsys (by simp [B.di]) ent gu (fun b _ => Clear.nil b) (by show X.A.units + 1 + 1 < cLine; omega) (fun _ _ e => e) (fun h' u tk k => ⟨_, _, rfl, .str _, H, I.kept k, ⟨_, rfl⟩, fin⟩) (Nat.le_trans ln (by decide)))
  · obtain ⟨u, rfl, ru⟩ := vals1 rel
    obtain rfl : u = Value.ref l := ru
    obtain ⟨_, its, m, rv, el⟩ := (show ObjOk X.prog X.w H s.heap l (.lst (List.replicate (n + 1) (.ref d))) from I.hok l _ hl)
    have eit := vals_same rv
    subst eit
    have hld : l ≠ d := by
      obtain ⟨i', hd, _⟩ := hb
      exact ne_of hl hd (by intro q; cases q)
    have hli : l ≠ i := ne_of hl hi (by intro q; rw [List.replicate_succ] at q; cases q)
    rw [List.replicate_succ] at el
    refine call_repr_slot (by omega) ⟨_, el, rfl⟩ F.slot_list_repr.toG (call_list_reprK (as := [d, i]) (d := 1) (ts := List.replicate (n + 1) (tB z)) el rfl rfl (by simp [hld, hli]) (by simp) (fun j y ej => ?_) gu (fun b _ => Clear.nil b) (by show X.A.units + 1 + (1 + 1) < cLine; omega) (fun _ _ e => e)
      (fun h' u tk k => ⟨_, _, rfl, .str _, H, I.kept k, ⟨_, rfl⟩, fin⟩) ?_)
    · rw [← List.replicate_succ, List.getElem?_toArray] at ej
      have hj : j < n + 1 := by
        have := (List.getElem?_eq_some_iff.mp ej).1
        rwa [List.length_replicate] at this
      rw [List.getElem?_replicate, if_pos hj] at ej
      obtain rfl : Value.ref d = y := Option.some.inj ej
      refine ⟨tB z, ?_, one⟩
      rw [List.getElem?_replicate, if_pos hj]
    · refine Nat.le_trans (listText_len_le _) ?_
      rw [List.map_replicate, List.sum_replicate_nat, List.length_replicate]
      refine Nat.le_trans (show (n + 1) * (tB z).length + 2 * (n + 1) + 3 ≤ 101 * 200 + 2 * 101 + 3 from ?_) (by decide)
      have := Nat.mul_le_mul (show n + 1 ≤ 101 by omega) ln
      omega
end
end G6

set_option maxHeartbeats 4000000
namespace N1
open PySem PySem.Spec PyProof.Rows L2 G3
section
variable {X : Cx}
/-- a < b, data of any depth that are alike -/
def rLtDp (K : PySem.W.Frag) : R2 := fun x y H Q => ∃ d e, Dp K H x d ∧ Dp K H y e ∧ PySem.W.alike d e = true ∧ d ≠ .none ∧ d.depth ≤ 60 ∧ Q (.bl (PySem.W.dataLt d e)) H
theorem op_ltDp (hu : X.A.units + 64 < cLine) : OpR X (compareOp .Lt) (rLtDp X.K) := by
  intro pins s σ H x y v u Q I rx ry h
  obtain ⟨d, e, hd, he, al, nn, dep, q⟩ := h
  obtain ⟨as, r1⟩ := Dp.reads I d x v hd rx
  obtain ⟨bs, r2⟩ := Dp.reads I e y u he ry
  exact PySem.W.lt_data r1 r2 al nn (by have := Nat.min_le_left d.depth e.depth; omega) ⟨.bl _, H, I, rfl, q⟩
theorem each_rel : ∀ {bs : List (V × PyData)} {us : List Value}, Vals (bs.map (·.1)) us → PySem.W.EachIs (fun v (b : V × PyData) => RelV b.1 v) us bs
  | [], _, .nil => .nil
  | _ :: _, _, .cons r t => .cons r (each_rel t)
theorem rel_each {us : List Value} {bs : List (V × PyData)} (h : PySem.W.EachIs (fun v (b : V × PyData) => RelV b.1 v) us bs) : Vals (bs.map (·.1)) us := by
  induction h with
  | nil => exact .nil
  | cons r _ ih => exact .cons r ih
theorem each_reads {pins : List (Addr × Obj)} {σ : L2.St} {H : Hp} {s : Shared} (I : Inv X pins σ H s) : ∀ {bs : List (V × PyData)} {us : List Value}, Vals (bs.map (·.1)) us → (∀ b ∈ bs, Dp X.K H b.1 b.2) → PySem.W.EachIs (fun v (b : V × PyData) => ∃ as, Reads s.heap v b.2 as) us bs
  | [], _, .nil, _ => .nil
  | b :: bs, _, .cons r t, h => .cons (Dp.reads I b.2 b.1 _ (h b List.mem_cons_self) r) (each_reads I t fun c hc => h c (List.mem_cons_of_mem _ hc))
/-- sorted(xs), data of any depth that are alike -/
def rSortD (K : PySem.W.Frag) : List V → Hp → VK → Prop := fun vs H Q => ∃ (a : Addr) (bs : List (V × PyData)), vs = [.ref a] ∧ SqL K H a (bs.map (·.1)) ∧ (∀ b ∈ bs, Dp K H b.1 b.2 ∧ b.2.depth ≤ 60) ∧ PySem.W.AllAlike (bs.map (·.2)) ∧ PySem.W.Sortable (bs.map (·.2)) ∧
  ∀ p, H p = none → Q (.ref p) (upd H p (.lst ((bs.mergeSort (PySem.W.dataLe false (·.2))).map (·.1))))
theorem cr_sortedD (hu : X.A.units + 64 < cLine) : CallR X (.builtin "sorted") (rSortD X.K) := by
  intro pins s σ H vs us Q I r h
  obtain ⟨a, bs, rfl, hs, hd, al, so, q⟩ := h
  obtain ⟨its, rv, hl, hz⟩ := I.list hs
  obtain ⟨u, rfl, ru⟩ := vals1 r
  obtain rfl : u = Value.ref a := ru
  rw [List.length_map] at hz
  refine PySem.W.sorted_data (enc := fun b : V × PyData => b.2) hl.isList (each_rel rv) (each_reads I rv fun b hb => (hd b hb).1) al so hz (fun b hb => by have := (hd b hb).2; omega) fun out ho eo => ?_
  obtain ⟨n, hn⟩ := sortedAll_at s.heap its out.toArray
  refine ⟨.ref (s.heap.objs.size + 1), _, I.laid (t' := s.toks) (o := .lst ((bs.mergeSort (PySem.W.dataLe false (·.2))).map (·.1))) (fun b o e => sortedAll_old e) (Nat.le_succ _) ⟨?_, out, n, rel_each eo, hn⟩, rfl, q _ (I.hok.fresh (Nat.le_succ _))⟩
  rw [List.length_map, List.length_mergeSort]
  exact hz
end
end N1

set_option maxHeartbeats 4000000
namespace M0
open PySem PySem.Spec PyProof.Rows L2 G3 G4
/-! what a value reads as, from one heap to another -/
theorem same_tup {K : PySem.W.Frag} {H H' : Hp} {a : Addr} {xs : List V} (e : Same H H') (h : SqT K H a xs) : SqT K H' a xs := by
  rcases h with (h | ⟨o, h⟩) | h
  · exact .inl (.inl (e _ _ h))
  · exact .inl (.inr ⟨o, e _ _ h⟩)
  · exact .inr h
mutual
theorem dp_same {K : PySem.W.Frag} {H H' : Hp} (e : Same H H') : ∀ (d : PyData) (v : V), Dp K H v d → Dp K H' v d
  | .none, _, h => by cases h; exact .non
  | .bool _, _, h => by cases h; exact .bl _
  | .int _, _, h => by cases h; exact .int _
  | .str _, _, h => by cases h; exact .str _
  | .list ds, _, h => by
    cases h with
    | lst hs ha => exact .lst (e.seq hs) (dpAll_same e ds _ ha)
  | .tuple ds, _, h => by
    cases h with
    | tup hs ha => exact .tup (same_tup e hs) (dpAll_same e ds _ ha)
  | .dict _, _, h => by cases h
theorem dpAll_same {K : PySem.W.Frag} {H H' : Hp} (e : Same H H') : ∀ (ds : List PyData) (vs : List V), DpAll K H vs ds → DpAll K H' vs ds
  | [], _, h => by cases h; exact .nil
  | d :: ds, _, h => by
    cases h with
    | cons h1 h2 => exact .cons (dp_same e d _ h1) (dpAll_same e ds _ h2)
end
theorem dpAll_len {K : PySem.W.Frag} {H : Hp} : ∀ {vs : List V} {ds : List PyData}, DpAll K H vs ds → vs.length = ds.length
  | _, _, .nil => rfl
  | _, _, .cons _ t => congrArg (· + 1) (dpAll_len t)
theorem dpAll_get {K : PySem.W.Frag} {H : Hp} : ∀ {vs : List V} {ds : List PyData} {i : Nat} {v : V}, DpAll K H vs ds → vs[i]? = some v → ∃ d, ds[i]? = some d ∧ Dp K H v d
  | _, _, _, _, .nil, e => by simp at e
  | _, _, 0, _, .cons h _, e => by
    simp only [List.getElem?_cons_zero, Option.some.injEq] at e
    subst e
    exact ⟨_, rfl, h⟩
  | _, _, i + 1, _, .cons _ t, e => by
    simp only [List.getElem?_cons_succ] at e
    obtain ⟨d, h1, h2⟩ := dpAll_get t e
    exact ⟨d, h1, h2⟩
theorem dpAll_getD {K : PySem.W.Frag} {H : Hp} : ∀ {vs : List V} {ds : List PyData} {i : Nat} {d : PyData}, DpAll K H vs ds → ds[i]? = some d → ∃ v, vs[i]? = some v ∧ Dp K H v d
  | _, _, _, _, .nil, e => by simp at e
  | _, _, 0, _, .cons h _, e => by
    simp only [List.getElem?_cons_zero, Option.some.injEq] at e
    subst e
    exact ⟨_, rfl, h⟩
  | _, _, i + 1, _, .cons _ t, e => by
    simp only [List.getElem?_cons_succ] at e
    obtain ⟨d, h1, h2⟩ := dpAll_getD t e
    exact ⟨d, h1, h2⟩
theorem dpAll_app {K : PySem.W.Frag} {H : Hp} : ∀ {vs ws : List V} {ds es : List PyData}, DpAll K H vs ds → DpAll K H ws es → DpAll K H (vs ++ ws) (ds ++ es)
  | _, _, _, _, .nil, h => h
  | _, _, _, _, .cons h t, g => .cons h (dpAll_app t g)
theorem dpAll_take {K : PySem.W.Frag} {H : Hp} : ∀ {vs : List V} {ds : List PyData} (n : Nat), DpAll K H vs ds → DpAll K H (vs.take n) (ds.take n)
  | _, _, 0, _ => by simp only [List.take_zero]; exact .nil
  | _, _, _ + 1, .nil => by simp only [List.take_nil]; exact .nil
  | _, _, n + 1, .cons h t => by simp only [List.take_succ_cons]; exact .cons h (dpAll_take n t)
theorem dpAll_drop {K : PySem.W.Frag} {H : Hp} : ∀ {vs : List V} {ds : List PyData} (n : Nat), DpAll K H vs ds → DpAll K H (vs.drop n) (ds.drop n)
  | _, _, 0, h => h
  | _, _, _ + 1, .nil => by simp only [List.drop_nil]; exact .nil
  | _, _, n + 1, .cons _ t => by simp only [List.drop_succ_cons]; exact dpAll_drop n t
theorem dpAll_rev {K : PySem.W.Frag} {H : Hp} : ∀ {vs : List V} {ds : List PyData}, DpAll K H vs ds → DpAll K H vs.reverse ds.reverse
  | _, _, .nil => .nil
  | _, _, .cons h t => by
    rw [List.reverse_cons, List.reverse_cons]
    exact dpAll_app (dpAll_rev t) (.cons h .nil)
theorem dpAll_set {K : PySem.W.Frag} {H : Hp} {v : V} {d : PyData} (hv : Dp K H v d) : ∀ {vs : List V} {ds : List PyData} (n : Nat), DpAll K H vs ds → DpAll K H (vs.set n v) (ds.set n d)
  | _, _, _, .nil => by simp only [List.set_nil]; exact .nil
  | _, _, 0, .cons h t => by simp only [List.set_cons_zero]; exact .cons hv t
  | _, _, n + 1, .cons h t => by simp only [List.set_cons_succ]; exact .cons h (dpAll_set hv n t)
/-! which class a value is of -/
def tyName : PyData → String
  | .none => "NoneType"
  | .bool _ => "bool"
  | .int _ => "int"
  | .str _ => "str"
  | .list _ => "list"
  | .tuple _ => "tuple"
  | .dict _ => "dict"
theorem dp_ty {K : PySem.W.Frag} {H : Hp} {v : V} {d : PyData} (h : Dp K H v d) : TyX K H v (.type (tyName d)) := by
  cases h with
  | non => exact .base .non
  | bl b => exact .base (.bl b)
  | int i => exact .base (.int i)
  | str x => exact .base (.str x)
  | lst hs _ =>
    rcases hs with (h | ⟨o, h⟩) | ⟨o, _, _, h, c, _⟩
    · exact .base (.lst h)
    · exact .base (.frz h)
    · exact .kList h c
  | tup hs _ =>
    rcases hs with (h | ⟨o, h⟩) | ⟨o, _, _, h, c, _⟩
    · exact .base (.tup h)
    · exact .fTuple h
    · exact .kTuple h c
def isInt : PyData → Bool
  | .bool _ => true
  | .int _ => true
  | _ => false
def isBool : PyData → Bool
  | .bool _ => true
  | _ => false
def isTup : PyData → Bool
  | .tuple _ => true
  | _ => false
theorem kit_int (K : PySem.W.Frag) {v : V} {H : Hp} {d : PyData} (h : Dp K H v d) : PySem.W.kitOne K (.type (tyName d)) (.type "int") = some (isInt d) := by
  cases h <;> kernel_rfl
theorem kit_bool (K : PySem.W.Frag) {v : V} {H : Hp} {d : PyData} (h : Dp K H v d) : PySem.W.kitOne K (.type (tyName d)) (.type "bool") = some (isBool d) := by
  cases h <;> kernel_rfl
theorem kit_tup (K : PySem.W.Frag) {v : V} {H : Hp} {d : PyData} (h : Dp K H v d) : PySem.W.kitOne K (.type (tyName d)) (.type "tuple") = some (isTup d) := by
  cases h <;> kernel_rfl
/-! sizes -/
theorem bulk_mem {d : PyData} : ∀ {ds : List PyData}, d ∈ ds → d.bulk ≤ PyData.bulkAll ds
  | _ :: ds, h => by
    simp only [PyData.bulkAll]
    rcases List.mem_cons.mp h with e | h
    · subst e; omega
    · have := bulk_mem h; omega
theorem bulk_len : ∀ ds : List PyData, ds.length ≤ PyData.bulkAll ds
  | [] => Nat.zero_le _
  | d :: ds => by
    have := bulk_len ds
    simp only [PyData.bulkAll, List.length_cons]
    omega
/-! what stands beside the pool -/
def off (p : Addr) (H : Hp) : Hp := fun b => if b = p then none else H b
theorem off_upd {p : Addr} {H : Hp} {o : HO} : off p (upd H p o) = off p H := by
  funext b
  unfold off
  by_cases e : b = p
  · rw [if_pos e, if_pos e]
  · rw [if_neg e, if_neg e, upd_ne e]
theorem off_sub {p : Addr} {H : Hp} : Same (off p H) H := fun b o e => by
  unfold off at e
  by_cases z : b = p
  · rw [if_pos z] at e; cases e
  · rw [if_neg z] at e; exact e
theorem off_ne {p b : Addr} {H : Hp} (z : b ≠ p) : off p H b = H b := if_neg z
theorem off_mono {p : Addr} {H H' : Hp} (e : Same H H') : Same (off p H) (off p H') := fun b o h => by
  by_cases z : b = p
  · unfold off at h; rw [if_pos z] at h; cases h
  · rw [off_ne z] at h ⊢; exact e b o h
theorem off_new {p : Addr} {H : Hp} {o : HO} (h : H p = none) : Same H (off p (upd H p o)) := fun b x e => by
  have z : b ≠ p := ne_of_none e h
  rw [off_ne z, upd_ne z]
  exact e
end M0

set_option maxHeartbeats 4000000
namespace E1
open PySem PySem.W Builtin Builtin.ObjectAttr
section
variable {prog : Program} {w : World} {A : Around} {R : Result → Shared → Prop} {hp : Heap} {g : Array GenState} {d : Drawn} {t : Nat} {os : OsState}
/-- the first field of an own error's object -/
theorem field_first {B : String} {bmB : List Value} {K : Frag} {name : Str} {tk : Tok} {v : Value} {x C : Addr} {fv : Array Value} {cd : ClassData} (SF : StoreFacts B bmB "object.__setattr__" "object")
    (X : K.In hp) (at0 : hp.get? x = some { cls := .ref C, data := .fields fv }) (cl : clsIn K C = some cd) (has : cd.hasDict = true) (ov : excOver K C bmB = true) (tak : takerIn K C name = some none)
    (go : ∀ h' tk' dx, (∀ b o, b ≠ x → hp.get? b = some o → h'.get? b = some o) → hp.objs.size ≤ dx → dx ≠ x → h'.get? x = some { cls := .ref C, dict := some dx, data := .fields fv } →
      h'.Ns1 dx (fun y => if y = name then some v else none) → R (.ok (.ret .none)) ⟨h', g, d, tk', os⟩) :
    codeAny (model prog w) A (.call (.builtin "object.__setattr__") ⟨[.ref x, .str name tk, v], []⟩) R ⟨hp, g, d, t, os⟩ := by
  have I : InstAt hp x { cls := .ref C, data := .fields fv } C none := ⟨at0, rfl, rfl, trivial⟩
  have xs : x ≠ hp.objs.size := Nat.ne_of_lt (Heap.lt_size at0)
  have data : Looks (model prog w) hp (classData C) cd := looks_clsIn X cl
  refine osa_openX (s := ⟨hp, g, d, t, os⟩) SF X I ov tak fun b => ?_
  show wpAny _ _ (storeInOwnDict (.ref x) (.ref C) (.str name tk) name v b) _ _ _
  obtain ⟨nm, bs, mro, ns, qn, hd, sn, sb, ab, col, del⟩ := cd
  dsimp only at has
  subst has
  unfold storeInOwnDict ownDictForStores
  repeat (first | with_reducible refine HandSPX.store_in_new ?_ ?_ | with_reducible refine wpAny_loadPart_at at0 ?_ | with_reducible refine data.at ?_ | wp_step)
  · exact ⟨_, #[], _, (Heap.get?_update_ne _ _ _ _ xs.symm).trans (Heap.get?_push_at rfl rfl), rfl, fun e he => absurd he (by simp), fun _ => rfl⟩
  · intro h' tk' isNs but
    have at1 : (hp.push { cls := .type "dict", data := .dict #[] }).get? x = some { cls := .ref C, data := .fields fv } := Heap.get?_push_of_some _ at0
    refine go h' tk' hp.objs.size (fun b o nb ob => ?_) (Nat.le_refl _) xs.symm ?_ isNs
    · exact (but.2 b (Nat.ne_of_lt (Heap.lt_size ob))).trans ((Heap.get?_update_ne _ _ _ _ nb).trans (Heap.get?_push_of_some _ ob))
    · exact (but.2 x xs).trans (Heap.get?_update_self _ at1 rfl)
/-- a further one -/
theorem field_more {B : String} {bmB : List Value} {K : Frag} {name : Str} {tk : Tok} {v : Value} {x C dx : Addr} {fv : Array Value} {cd : ClassData} {m0 : Str → Option Value} {nl : List Str} (SF : StoreFacts B bmB "object.__setattr__" "object")
    (X : K.In hp) (at0 : hp.get? x = some { cls := .ref C, dict := some dx, data := .fields fv }) (nsD : hp.Ns1 dx m0) (wi : Within m0 nl) (few : nl.length ≤ 1000) (cl : clsIn K C = some cd) (has : cd.hasDict = true) (ov : excOver K C bmB = true) (tak : takerIn K C name = some none)
    (go : ∀ h' tk', (∀ b o, b ≠ dx → hp.get? b = some o → h'.get? b = some o) → h'.Ns1 dx (fun y => if y = name then some v else m0 y) → R (.ok (.ret .none)) ⟨h', g, d, tk', os⟩) :
    codeAny (model prog w) A (.call (.builtin "object.__setattr__") ⟨[.ref x, .str name tk, v], []⟩) R ⟨hp, g, d, t, os⟩ := by
  obtain ⟨oD, esD, epD, hoD, hdD, _⟩ := nsD.count wi
  have I : InstAt hp x { cls := .ref C, dict := some dx, data := .fields fv } C (some oD) := ⟨at0, rfl, rfl, hoD⟩
  have data : Looks (model prog w) hp (classData C) cd := looks_clsIn X cl
  refine osa_openX (s := ⟨hp, g, d, t, os⟩) SF X I ov tak fun b => ?_
  show wpAny _ _ (storeInOwnDict (.ref x) (.ref C) (.str name tk) name v b) _ _ _
  obtain ⟨nm, bs, mro, ns, qn, hd, sn, sb, ab, col, del⟩ := cd
  dsimp only at has
  subst has
  unfold storeInOwnDict ownDictForStores
  repeat (first | with_reducible refine OEX.store_in_old nsD wi few ?_ | with_reducible refine wpAny_loadPart_at at0 ?_ | with_reducible refine data.at ?_ | wp_step)
  intro h' tk' isNs but
  exact go h' tk' (fun b o nb ob => (but.2 b nb).trans ob) isNs
end
end E1

set_option maxHeartbeats 4000000
namespace E2
open PySem PySem.Spec PyProof.Rows L2
/-- what is needed of a built-in __init__ -/
structure InitF (cls initId : String) : Prop where
  kind : builtinKind initId = some .slot
  row : Manifest.signature? initId = some ⟨.positional, "*", cls, .self, [⟨"args", .varPos, false⟩]⟩
  star : (cls != "*") = true
  plain : plainId initId = true
  entry : entryFor table initId = some Builtin.«BaseException.__init__»
theorem InitF.of {cls newId initId : String} (F : ExcCallFacts cls newId initId) : InitF cls initId := ⟨F.initKind, F.initRow, F.noStar, F.init.plain, F.initEntry⟩
/-- the built-in class that own error classes stand under: B gives __new__, Bs is the class itself, bmB its order -/
structure Under (B newId initId Bs : String) (bmB : List Value) : Prop where
  eb : ∃ i bmE, ExcBaseFacts B newId i bmE
  inf : InitF Bs initId
  kx : PySem.W.KxsFacts Bs initId
  sf : StoreFacts Bs bmB "object.__setattr__" "object"
  hasB : bmB.contains (.type B) = true
  noA : bmB.contains (.type "AttributeError") = false
  noN : bmB.contains (.type "NameError") = false
/-- what the written part says of an own error class at C, its __init__ at fI -/
structure ExC (K : PySem.W.Frag) (C fI : Addr) (B newId initId Bs : String) (bmB : List Value) : Prop where
  un : Under B newId initId Bs bmB
  made : PySem.W.excInitIn K C bmB newId = true
  ov : PySem.W.excOver K C bmB = true
  cls : ∃ cd, PySem.W.clsIn K C = some cd ∧ cd.hasDict = true
  sa : PySem.W.findIn K (.ref C) "__setattr__" = some (some (.builtin "object.__setattr__"))
  ini : PySem.W.findIn K (.ref C) "__init__" = some (some (.ref fI))
  isF : PySem.W.isFn K (.ref fI) = true
  sup : PySem.W.ks_superIn K C C "__init__" = some (some (.builtin initId))
  sub : PySem.W.subIn K (.ref C) (.type Bs) = some true
  self : PySem.W.subIn K (.ref C) (.ref C) = some true
  op : PySem.W.nsIn K cStatics "thirdparty.any" = some none
  exC : PySem.W.subIn K (.ref C) (.type "BaseException") = some true
  tyC : PySem.W.typeIn K (.ref C) = some (.type "type")
  kC : PySem.W.keepIn K (.ref C) = true
section
variable {X : Cx} {pins : List (Addr × Obj)} {σ : L2.St} {H : Hp} {s : Shared} {a C dx : Addr} {f : Str} {y : V} {u : Value} {fs : List (Str × V)} {Q : Unit → Shared → Prop} {E : Value → Shared → Prop} {A : Around} {fI : Addr} {B newId initId Bs : String} {bmB : List Value}
theorem ext_ne {φ : Heap → Prop} {o : HO} (h : ∀ ψ, o ≠ .ext ψ) : HO.ext φ ≠ o := fun z => h φ z.symm
/-- the object gets its dict -/
theorem inv_first {hp h' : Heap} {g : Array GenState} {dr : Drawn} {t tk' : Nat} {os : OsState} {t1 : Addr} {mA : Str → Option Value} (I : Inv X pins σ H ⟨hp, g, dr, t, os⟩) (e : H a = some (exo a C none))
    (k : ∀ b o, b ≠ a → hp.get? b = some o → h'.get? b = some o) (dn : hp.objs.size ≤ dx) (dne : dx ≠ a) (hx : h'.get? a = some ({ cls := .ref C, dict := some dx, data := .fields #[.ref t1, .none, .none, .none, .bool false, .none] } : Obj))
    (hn : h'.Ns1 dx mA) (rel : ∀ f, RelO (fs.lookup f) (mA f)) : H dx = none ∧ Inv X pins σ (upd (upd H dx (exd dx fs)) a (exo a C (some dx))) ⟨h', g, dr, tk', os⟩ := by
  have new : H dx = none := I.hok.fresh dn
  have offD : ∀ {b : Addr} {o : Obj}, hp.get? b = some o → b ≠ dx := fun {b o} q => Nat.ne_of_lt (Nat.lt_of_lt_of_le (Heap.lt_size q) dn)
  have offA : ∀ {b : Addr}, H b = none → b ≠ a := fun {b} n z => by
    rw [z, e] at n
    cases n
  have keepU : ∀ {b : Addr} {o : HO}, H b = some o → (∀ ψ, o ≠ .ext ψ) → upd (upd H dx (exd dx fs)) a (exo a C (some dx)) b = some o := fun {b o} q ne => by
    have ba : b ≠ a := at_ne e q (ext_ne ne)
    rw [upd_ne ba, upd_ne (ne_of_none q new)]
    exact q
  have U : Un X.fs [] H (upd (upd H dx (exd dx fs)) a (exo a C (some dx))) hp h' :=
    { keep := fun b o q n _ _ => k b o (offA n) q
      slot := fun b o q n _ _ => ⟨o.slots, k b o (offA n) q⟩
      free := fun b o q n _ => by
        rw [upd_ne (offA n), upd_ne (offD q)]
        exact n
      there := fun b o q _ => by
        by_cases ba : b = a
        · rw [ba]
          exact ⟨_, hx⟩
        · exact ⟨o, k b o ba q⟩
      tups := fun b xs q => keepU q fun ψ z => by cases z
      frzs := fun b o v q => keepU q fun ψ z => by cases z
      tbls := fun b ps q => ⟨#[], by rw [keepU q fun ψ z => by cases z]; simp⟩ }
  refine ⟨new, I.un (t' := tk') U fun b o q => ?_⟩
  by_cases ba : b = a
  · subst ba
    rw [upd_same] at q
    cases q
    exact exo_ok hx
  · rw [upd_ne ba] at q
    by_cases bd : b = dx
    · subst bd
      rw [upd_same] at q
      cases q
      exact exd_ok hn rel
    · rw [upd_ne bd] at q
      refine (I.hok b o q).stay (fun c v hc z => k c v ?_ z) (fun c hc => keepU hc fun ψ z => by cases z) (fun c xs hc => keepU hc fun ψ z => by cases z)
      rcases hc with hc | hc
      · rw [hc]
        exact ba
      · exact at_ne e hc exo_own
/-- self.f = y, the first -/
theorem keep_first (T : ExC X.K C fI B newId initId Bs bmB) (I : Inv X pins σ H s) (e : H a = some (exo a C none)) (tak : PySem.W.takerIn X.K C f = some none) (ry : RelV y u)
    (go : ∀ dx s', H dx = none → dx ≠ a → Inv X pins σ (upd (upd H dx (exd dx [(f, y)])) a (exo a C (some dx))) s' → Q () s') : wpAny (model X.prog X.w) A (setAttr (.ref a) f u) Q E s := by
  obtain ⟨cd, cl, has⟩ := T.cls
  obtain ⟨t1, at0⟩ := exo_at I.hok e
  obtain ⟨hp, g, dr, t, os⟩ := s
  refine PySem.W.set_plain I.kIn (ox := { cls := .ref C, dict := none, data := .fields #[.ref t1, .none, .none, .none, .bool false, .none] }) (od := none) ⟨at0, rfl, rfl, trivial⟩ T.sa ?_
  refine E1.field_first T.un.sf I.kIn at0 cl has T.ov tak fun h' tk' dx k dn dne hx hn => ?_
  have J := inv_first (tk' := tk') (fs := [(f, y)]) I e k dn dne hx hn (relO_put (fs := []) ry fun _ => True.intro)
  exact go dx _ J.1 dne J.2
/-- self.f = y, a further one -/
theorem keep_more (T : ExC X.K C fI B newId initId Bs bmB) (I : Inv X pins σ H s) (e : H a = some (exo a C (some dx))) (ed : H dx = some (exd dx fs)) (few : fs.length ≤ 900) (tak : PySem.W.takerIn X.K C f = some none) (ry : RelV y u)
    (go : ∀ s', Inv X pins σ (upd H dx (exd dx ((f, y) :: fs))) s' → Q () s') : wpAny (model X.prog X.w) A (setAttr (.ref a) f u) Q E s := by
  obtain ⟨cd, cl, has⟩ := T.cls
  obtain ⟨t1, at0⟩ := exo_at I.hok e
  obtain ⟨mA, nsD, rel⟩ := exd_at I.hok ed
  have wi := within_of rel
  obtain ⟨hp, g, dr, t, os⟩ := s
  obtain ⟨oD, _, _, hoD, _, _⟩ := nsD.count wi
  refine PySem.W.set_plain I.kIn (ox := { cls := .ref C, dict := some dx, data := .fields #[.ref t1, .none, .none, .none, .bool false, .none] }) (od := some oD) ⟨at0, rfl, rfl, hoD⟩ T.sa ?_
  refine E1.field_more T.un.sf I.kIn at0 nsD wi (by rw [List.length_map]; omega) cl has T.ov tak fun h' tk' k hn => ?_
  have there : ∃ o, h'.get? dx = some o := by
    obtain ⟨o, _, _, e', _⟩ := hn
    exact ⟨o, e'⟩
  exact go _ (I.write (t' := tk') (x := dx) (e := dx) (o := exd dx ((f, y) :: fs)) (by rw [ed]; exact True.intro) (.inl rfl) k there (exd_ok hn (relO_put ry rel)))
end
/-- self.f = e in an own error's __init__ -/
def tKeep (K : PySem.W.Frag) (f : Str) (to te : TE) : TS := fun D σ H => te σ H fun y H1 => to σ H1 fun x H2 => ∃ (a C fI : Addr) (B newId initId Bs : String) (bmB : List Value), x = .ref a ∧ ExC K C fI B newId initId Bs bmB ∧ PySem.W.takerIn K C f = some none ∧
  ((H2 a = some (exo a C none) ∧ ∀ dx, H2 dx = none → dx ≠ a → D.nx σ (upd (upd H2 dx (exd dx [(f, y)])) a (exo a C (some dx)))) ∨
    ∃ (dx : Addr) (fs : List (Str × V)), H2 a = some (exo a C (some dx)) ∧ H2 dx = some (exd dx fs) ∧ fs.length ≤ 900 ∧ D.nx σ (upd H2 dx (exd dx ((f, y) :: fs))))
theorem ps_keep {X : Cx} {o e : Expr} {to te : TE} {f : Str} {p' pos : Pos} (ho : PE X o to) (he : PE X e te) (hs : swapsWith e (some (.Attribute o f p')) pos.line X.env = pure false := by rfl) : PS X (.Assign [.Attribute o f p'] e pos) (tKeep X.K f to te) := by
  refine ⟨fun pins s σ H D I hyp => plainObj_wpAny_Assign_Attribute (thn (he.run pins s σ H _ I hyp) fun v s1 ⟨y, H1, I1, r1, q1⟩ => thn (ho.run pins s1 σ H1 _ I1 q1) fun u s2 ⟨x, H2, I2, r2, a, C, fI, B, n, i, b2, bm, ex, T, tak, q⟩ => ?_) hs⟩
  subst ex
  obtain rfl : u = Value.ref a := r2
  rcases q with ⟨ea, q⟩ | ⟨dx, fs, ea, ed, few, q⟩
  · exact keep_first T I2 ea tak r1 fun dx s' n ne J => ⟨σ, _, J, q dx n ne⟩
  · exact keep_more T I2 ea ed few tak r1 fun s' J => ⟨σ, _, J, q⟩
end E2

set_option maxHeartbeats 4000000
namespace E3
open PySem PySem.Spec PyProof.Rows L2 E2
/-- a def within a class that says super(): it keeps the class -/
abbrev fnCl (nm ql : Str) (pr : Arguments) (bd : List Stmt) (sc : Scope) (kV doc pm : Value) (an : Option Addr) (cdv ct : Value) (cl : Addr) : FuncData := { PySem.W.fnOf nm ql pr bd sc .none kV doc pm an cdv ct with closure := [("__class__", cl)] }
structure InitFn (P : Program) (K : PySem.W.Frag) (C f : Addr) (ql : Str) (pr : Arguments) (bd : List Stmt) (sc : Scope) (fd : FuncData) : Prop where
  ex : ∃ (oc kV doc pm cdv ct : Value) (od an : Option Addr) (osl : Array (Option Value)) (cl cc : Addr) (ocl occ : Obj) (vs : Array Value) (file : Str) (tf : Tok),
    fd = fnCl "__init__" ql pr bd sc kV doc pm an cdv ct cl ∧ K.lookup f = some ⟨oc, od, .func fd, osl⟩ ∧ PySem.W.codeIn K cdv ql = true ∧ K.lookup cl = some ocl ∧ ocl.data = .cell (some (.ref C)) ∧
    cdv = .ref cc ∧ K.lookup cc = some occ ∧ occ.data = .fields vs ∧ vs[2]? = some (.str file tf) ∧ ((P.main.file : Str) == file) = true
  top : (P.main.scope.names.lookup ("super" : Str)).isSome = false
/-- its names -/
structure InitScope (N ps : List Str) (sc : Scope) : Prop where
  kind : sc.kind = .function
  co : sc.isCoroutine = false
  gen : sc.isGenerator = false
  nd : N.Nodup
  is : N = ps
  par : ∀ x ∈ ps, sc.names.lookup x = some .local
  nocell : ∀ y ∈ sc.names, y.2 ≠ .cell
  only : ∀ y ∈ sc.names, y.2 = .free → y.1 = Str.ofString "__class__"
  cls : sc.names.lookup (Str.ofString "__class__") = some .free
  sup : sc.names.lookup (Str.ofString "super") = some .globalImplicit
def cxI (P : Program) (w : World) (K : PySem.W.Frag) (mg : Str → Option Value) (base : Heap) (N : List Str) (fd : FuncData) (f : Addr) (A : Around) (outer : List Env) (s : Shared) (H : Hp) : Cx where
  prog := P
  w := w
  K := K
  mg := mg
  base := base
  A := A.deeper (callEnv fd s.heap.objs.size f)
  N := N
  s_0 := s
  H_0 := H
  env := callEnv fd s.heap.objs.size f
  outer := outer
  stack := callEnv fd s.heap.objs.size f :: outer
  ex := []
  calm := true
  fn := fun _ => false
  pn := []
  xe := fun _ _ => False
theorem zip_look : ∀ {ps : List Str} {us : List Value} {i : Nat} {x : Str} {u : Value}, ps.Nodup → ps[i]? = some x → us[i]? = some u → (ps.zip us).reverse.lookup x = some u := by
  intro ps us i x u nd hp hu
  have mem : (x, u) ∈ (ps.zip us).reverse := by
    rw [List.mem_reverse]
    refine List.mem_of_getElem? (i := i) ?_
    rw [List.getElem?_zip_eq_some]
    exact ⟨hp, hu⟩
  have uni : ∀ (l : List (Str × Value)), (∀ v, (x, v) ∈ l → v = u) → (x, u) ∈ l → l.lookup x = some u := by
    intro l
    induction l with
    | nil => intro _ h; cases h
    | cons p l ih =>
      intro h m
      obtain ⟨y, v⟩ := p
      by_cases e : x = y
      · subst e
        rw [List.lookup_cons, beq_self_eq_true]
        exact congrArg some (h v List.mem_cons_self)
      · have e2 : (x == y) = false := by simpa using e
        rw [List.lookup_cons, e2]
        refine ih (fun v' hv => h v' (List.mem_cons_of_mem _ hv)) ?_
        rcases List.mem_cons.mp m with q | q
        · exact absurd (Prod.mk.inj q).1 e
        · exact q
  refine uni _ (fun v hv => ?_) mem
  rw [List.mem_reverse] at hv
  obtain ⟨j, hj⟩ := List.getElem?_of_mem hv
  rw [List.getElem?_zip_eq_some] at hj
  have ej : j = i := (List.getElem?_inj (List.getElem?_eq_some_iff.mp hj.1).1 nd).mp (hj.1.trans hp.symm)
  rw [ej, hu] at hj
  exact (Option.some.inj hj.2).symm
section
variable {P : Program} {w : World} {K : PySem.W.Frag} {mg : Str → Option Value} {base : Heap} {C f : Addr} {ql : Str} {pr : Arguments} {bd : List Stmt} {sc : Scope} {N ps : List Str} {A : Around} {outer : List Env} {s : Shared} {H : Hp} {us : List Value} {vs : List V} {kV doc pm cdv ct : Value} {an : Option Addr} {cl : Addr} {h0 : Heap}
theorem start_init {ocl : Obj} (S : InitScope N ps sc) (hd : A.handled = none) (e0 : Env0 P w K mg base A outer s H) (hl : vs.length = ps.length) (r : Vals vs us) (lcl : K.lookup cl = some ocl) (dcl : ocl.data = .cell (some (.ref C)))
    (ns : h0.Ns s.heap.objs.size (fun x => (ps.zip us).reverse.lookup x)) (kp : ∀ b o, s.heap.get? b = some o → h0.get? b = some o) {t : Nat} :
    Inv (cxI P w K mg base N (fnCl "__init__" ql pr bd sc kV doc pm an cdv ct cl) f A outer s H) [] (start N vs) H { s with heap := h0, toks := t } := by
  have hNp := S.is
  subst hNp
  have inB : base.get? cl = some ocl := e0.mod.kin cl ocl lcl
  have inS := e0.bs cl ocl inB
  have oneC : ∀ {x : Str} {c : Addr}, (callEnv (fnCl "__init__" ql pr bd sc kV doc pm an cdv ct cl) s.heap.objs.size f).cells.lookup x = some c → x = "__class__" ∧ c = cl := by
    intro x c h
    have h : ([(Str.ofString "__class__", cl)] : List (Str × Addr)).lookup x = some c := h
    by_cases e : x = "__class__"
    · subst e
      rw [List.lookup_cons, beq_self_eq_true] at h
      exact ⟨rfl, (Option.some.inj h).symm⟩
    · have e2 : (x == (Str.ofString "__class__")) = false := by simpa using e
      rw [List.lookup_cons, e2] at h
      cases h
  refine ⟨⟨e0.mod, S.kind, rfl, rfl, Nat.le_refl _, fun x y c h1 h2 => (oneC h1).1.trans (oneC h2).1.symm, fun x hx => ?_, fun x c h _ => ?_, fun _ => hd, Around.frames_deeper e0.frames, .inr ⟨rfl, rfl⟩, fun b z => G2.not_in_nil z, e0.bs, e0.bsz, fun b _ _ z => G2.not_in_nil z, fun b z => G2.not_in_nil z, e0.funs, e0.frf⟩,
    rfl, e0.bare, Un.kept kp, ⟨_, ns, fun i x v h1 h2 _ => ?_⟩, fun x c h => ?_, e0.hok.fresh (Nat.le_refl _), fun x c h => ?_, fun p z => G2.not_in_nil z, e0.hok.kept kp, ?_⟩
  · have hx : sc.names.lookup x = some .cell ∨ sc.names.lookup x = some .free := hx
    rcases hx with q | q
    · exact absurd rfl (S.nocell _ (PySem.mem_of_lookup q))
    · have e := S.only _ (PySem.mem_of_lookup q) rfl
      dsimp only at e
      subst e
      exact ⟨cl, rfl⟩
  · exact absurd h Bool.false_ne_true
  · have hi : i < vs.length := by
      by_cases q : i < vs.length
      · exact q
      · unfold L2.start at h2
        rw [List.getElem?_append_right (by simpa using q), List.getElem?_replicate] at h2
        split at h2 <;> cases h2
    have hv : vs[i]? = some v := by
      unfold L2.start at h2
      rw [List.getElem?_append_left (by simpa using hi), List.getElem?_map] at h2
      cases e : vs[i]? with
      | none => rw [e] at h2; cases h2
      | some z => rw [e] at h2; cases h2; rfl
    obtain ⟨u, hu, rv⟩ := r.get hv
    exact ⟨u, rv, .inl ⟨S.par x (List.mem_of_getElem? h1), zip_look S.nd h1 hu⟩⟩
  · obtain ⟨_, rfl⟩ := oneC h
    exact ⟨_, ocl, kp _ _ inS.1, dcl⟩
  · obtain ⟨_, rfl⟩ := oneC h
    exact inS.2
  · unfold L2.start
    show _ = N.length
    rw [List.length_append, List.length_map, List.length_replicate]
    omega
end
end E3

set_option maxHeartbeats 4000000
namespace E4
open PySem PySem.Spec PyProof.Rows L2 E2 E3
/-- a built-in __init__ bound to an own error may be called with anything by place -/
theorem bound_init {Mo : Model} {Ar : Around} {X : Value → Shared → Prop} {st : Shared} {top newId initId : String} (F : InitF top initId) {nm qn : Str} {C N x : Addr} {ox : Obj} {bases tail : List Value} {hasD : Bool} {sn : List Str} {subs : List Value} {abs : Bool} {col : Option Bool} {dd : Option Addr}
    {j0 j1 j2 j3 j5 : Option Value} {more : List Value} {R : Unit → Shared → Prop} (atC : st.heap.get? C = some (excClassObj nm qn C N bases tail hasD sn subs abs col dd j0 j1 j2 j3 j5 newId)) (atX : st.heap.get? x = some ox) (of : ox.cls = .ref C) (fin : R () st) :
    wpAny Mo Ar (checkBoundCall initId ⟨.ref x :: more, []⟩) R X st := by
  obtain ⟨hp, gs, dr, tk, os⟩ := st
  have ns := F.star
  have free : ∀ (u v : String) (m : Nat), Bind.check ⟨.positional, "*", top, .self, [⟨"args", .varPos, false⟩]⟩ u v m [] = pure () := fun u v m => check_star_args _ _ _ _ _ _
  simp only [checkBoundCall, F.kind, F.row]
  repeat
    first
    | (with_reducible refine wpAny_loadPart_at atX ?_
       rw [of])
    | with_reducible refine wpAny_loadPart_at atC ?_
    | wp_step
  refine wpAny_onRaise ?_
  simp only [List.map_nil]
  rw [free]
  exact wpAny_pure fin
/-- the built-in __init__, bound to the object, is called -/
theorem call_bound {prog : Program} {w : World} {A : Around} {E : Value → Shared → Prop} {h : Heap} {g : Array GenState} {d : Drawn} {t : Nat} {os : OsState} {K : PySem.W.Frag} {C x u t0 : Addr} {B newId i : String} {bmB : List Value} {rest : List Value} {Q : Value → Shared → Prop}
    (X : K.In h) (FB : InitF B i) (made : PySem.W.excInitIn K C bmB newId = true) (at1 : h.get? x = some ({ cls := .ref C, dict := none, data := .fields #[.ref t0, .none, .none, .none, .bool false, .none] } : Obj)) (atU : h.get? u = some (PySem.W.kxs_mw i x)) (few : rest.length ≤ sizeLine)
    (go : ∀ h' t1, (∀ b o, b ≠ x → h.get? b = some o → h'.get? b = some o) → h'.get? x = some ({ cls := .ref C, dict := none, data := .fields #[.ref t1, .none, .none, .none, .bool false, .none] } : Obj) → Q .none ⟨h', g, d, t, os⟩) :
    wpAny (model prog w) A (call (.ref u) rest) Q E ⟨h, g, d, t, os⟩ := by
  obtain ⟨nm, N', qn, bs, bm, hdct, sn, sub, ab, col, dd, k0, k1, k2, k3, k5, hC, hT⟩ := PySem.W.excInit_of X made
  refine wpAny_call (codeAny_of_tree ?_)
  show wpAny _ A.in1 (callAny (.ref u) ⟨rest, []⟩) _ _ _
  simp only [callAny]
  refine wpAny_bind (wpAny_load atU ?_)
  have isW : (Value.type "method-wrapper" == Value.type "method" || Value.type "method-wrapper" == Value.type "builtin_function_or_method" || Value.type "method-wrapper" == Value.type "method-wrapper") = true := by decide
  simp only [PySem.W.kxs_mw, isW, if_true]
  refine PySem.W.KFB.if_so (by decide) ?_
  refine wpAny_bind (bound_init FB hC at1 rfl ?_)
  refine wpAny_bind (wpAny_pure (wpAny_pure ?_))
  refine ⟨plainId_quiet FB.plain _, codeAny_builtin FB.entry ?_⟩
  exact PySem.W.exc_init_tree (cls := .ref C) (t0 := t0) (dv := none) (c2 := .none) (c3 := .none) (b4 := .bool false) at1 few fun h' k e _ => go h' _ k e
/-- super().__init__('..'), self in the first place -/
abbrev supE (p0 p1 p2 p3 p4 : Pos) (z : Str) (k : Nat) : Expr := .Call (.Attribute (.Call (.Name "super" p0) [] [] p1) "__init__" p2) [.Constant (.str z) k p3] [] p4
section
variable {P : Program} {w : World} {K : PySem.W.Frag} {mg : Str → Option Value} {base : Heap} {C f : Addr} {ql : Str} {pr : Arguments} {bd : List Stmt} {sc : Scope} {ps : List Str} {A : Around} {outer : List Env} {s s1 : Shared} {H : Hp} {σ : L2.St} {cdv : Value}
variable {B newId initId Bs : String} {bmB : List Value} {fI : Addr}
theorem run_super {fd : FuncData} {pl : Sem Bool} {ar : Arg} {a : Addr} {p0 p1 p2 p3 p4 : Pos} {z : Str} {kk : Nat} {Q : Value → Shared → Prop} {E : Value → Shared → Prop} {body : List Stmt} (T : ExC K C f B newId initId Bs bmB) (F : InitFn P K C f ql pr bd sc fd) (S : InitScope ps ps sc)
    (hp : (pr.posonlyargs ++ pr.args).head? = some ar) (p0s : ps[0]? = some ar.arg) (ms : mg "super" = none) (I : Inv (cxI P w K mg base ps fd f A outer s H) [] σ H s1) (sl : σ[0]? = some (some (.ref a))) (ea : H a = some (exo a C none))
    (he : eval (supE p0 p1 p2 p3 p4 z kk) (callEnv fd s.heap.objs.size f) = (do
      let ov ← attributeBase (.Call (.Name "super" p0) [] [] p1) "__init__" (callEnv fd s.heap.objs.size f) (eval (.Call (.Name "super" p0) [] [] p1) (callEnv fd s.heap.objs.size f))
      standAt p2.atName
      let (m, first) ← holding [ov] (getMethod ov "__init__" pl)
      callWith p4 m first (backTo p4 (starEach [.Constant (.str z) kk p3] (callEnv fd s.heap.objs.size f))) []))
    (go : ∀ s2, Inv (cxI P w K mg base ps fd f A outer s H) [] σ H s2 → Q .none s2) :
    PySem.wpAt (model P w) (A.deeper (callEnv fd s.heap.objs.size f)) (.func body (callEnv fd s.heap.objs.size f)) (eval (supE p0 p1 p2 p3 p4 z kk) (callEnv fd s.heap.objs.size f)) Q E s1 := by
  obtain ⟨oc, kV, doc, pm, cdv, ct, od, an, osl, cl, cc, ocl, occ, vs, file, tf, rfl, lf, cod, lcl, dcl, rfl, lcc, dcc, vfile, isf⟩ := F.ex
  have KX := I.kIn
  obtain ⟨cd, hcl, hasD⟩ := T.cls
  have env0 : callEnv (fnCl "__init__" ql pr bd sc kV doc pm an (.ref cc) ct cl) s.heap.objs.size f = (cxI P w K mg base ps (fnCl "__init__" ql pr bd sc kV doc pm an (.ref cc) ct cl) f A outer s H).env := rfl
  obtain ⟨nm, N', qn, bs, bm, hdct, sn, sub, ab, col, dd, k0, k1, k2, k3, k5, hC, hT⟩ := PySem.W.excInit_of KX T.made
  obtain ⟨t0, atA⟩ := exo_at I.hok ea
  obtain ⟨m, hn, hv⟩ := I.loc
  obtain ⟨u, ru, look⟩ := hv 0 ar.arg (.ref a) p0s sl (.inl (S.par _ (List.mem_of_getElem? p0s)))
  obtain rfl : u = Value.ref a := ru
  have mself : m ar.arg = some (.ref a) := by
    rcases look with ⟨_, q⟩ | ⟨q, _⟩
    · exact q
    · have loc : sc.names.lookup ar.arg = some .local := S.par _ (List.mem_of_getElem? p0s)
      have q : sc.names.lookup ar.arg = some .cell ∨ sc.names.lookup ar.arg = some .free := q
      rw [loc] at q
      rcases q with q | q <;> cases q
  obtain ⟨mb, b1, b2⟩ := I.mod.blt
  refine PySem.ks_wpAt_MethodCall (PySem.ks_wpAt_super_base (f := f) (ar := ar) S.sup S.cls (by decide) rfl (KX _ _ lf) rfl hp rfl (KX _ _ lcc) dcc vfile isf F.top ?_) he
  rw [show loadName (callEnv (fnCl "__init__" ql pr bd sc kV doc pm an (.ref cc) ct cl) s.heap.objs.size f) "super" = loadGlobal (callEnv (fnCl "__init__" ql pr bd sc kV doc pm an (.ref cc) ct cl) s.heap.objs.size f) "super" from loadName_read S.kind S.sup]
  refine Calls.loadGlobal_builtin (mg := mg) (mb := mb) (show s1.heap.Ns mainGlobals mg from I.mod.glob.keeps I.bk) ms (show s1.heap.Ns builtinsNs mb from b1.keeps I.bk) ((b2 _ (by decide)).trans (show bootBuiltins "super" = some (.type "super") by decide +kernel)) ⟨rfl, ?_⟩
  refine wpAny_loadName_free S.kind S.cls (c := cl) rfl ⟨ocl, KX _ _ lcl, dcl⟩ ?_
  refine wpAny_loadName_local S.kind (S.par _ (List.mem_of_getElem? p0s)) hn mself ?_
  obtain ⟨hp1, g, dr, t, os⟩ := s1
  refine PySem.ks_wpAny_isType_cls hC rfl ⟨rfl, ?_⟩
  refine PySem.ks_wpAny_call_super hC rfl atA rfl (fun c z => by cases z) (PySem.W.looks_subIn KX T.self) fun h2 atS kS => ?_
  have K2 := KX.keeps kS
  have atA2 := kS _ _ atA
  have Ia : PySem.W.InstAt h2 a ({ cls := .ref C, dict := none, data := .fields #[.ref t0, .none, .none, .none, .bool false, .none] } : Obj) C none := ⟨atA2, rfl, rfl, trivial⟩
  have sup := T.sup
  unfold PySem.W.ks_superIn at sup
  rw [hcl] at sup
  refine PySem.W.kxs_getMethod T.un.kx atS (PySem.W.looks_opaque K2 T.op) (l₀ := cd.mro) (fun A Q E s k q => wpAny_bind ((PySem.W.looks_clsIn K2 hcl) A _ E s k (wpAny_pure q))) rfl K2 sup (Ia.type.andThen (PySem.W.looks_subIn K2 T.sub)) (PySem.W.ks_ne K2 Ia hcl) (by decide) ?_
  have k3' : ∀ b o, hp1.get? b = some o → (h2.push (PySem.W.kxs_mw initId a)).get? b = some o := fun b o e => Heap.get?_push_of_some _ (kS b o e)
  refine PySem.W.kxs_callWith (i := initId) (x := a) rfl (Calls.evalArgs_plain ?_)
  refine Calls.spliced_cons (Calls.Constant_str (k := kk) (pos := p3) ?_)
  refine Calls.spliced_nil ⟨?_, ?_⟩
  · exact Heap.get?_push_at rfl rfl
  · refine call_bound (KX.keeps k3') T.un.inf T.made (k3' _ _ atA) (Heap.get?_push_at rfl rfl) (by show 1 ≤ sizeLine; decide) fun h4 t1 k4 at4 => ?_
    refine go _ ?_
    have J := (I.kept (h' := h2.push (PySem.W.kxs_mw initId a)) (t' := 0) k3').write (t' := t + 1 + 1) (x := a) (e := a) (o := exo a C none) (by rw [ea]; exact True.intro) (.inl rfl) k4 ⟨_, at4⟩ (exo_ok at4)
    have eu : upd H a (exo a C none) = H := by
      funext b
      by_cases hb : b = a
      · rw [hb, upd_same, ea]
      · rw [upd_ne hb]
    rw [eu] at J
    exact J
end
end E4

set_option maxHeartbeats 4000000
namespace E5
open PySem PySem.Spec PyProof.Rows L2 E2 E3 E4
section
variable {P : Program} {w : World} {K : PySem.W.Frag} {mg : Str → Option Value} {base : Heap} {C f : Addr} {ql : Str} {pr : Arguments} {rest : List Stmt} {sc : Scope} {ps : List Str} {B newId initId Bs : String} {bmB : List Value} {p0 p1 p2 p3 p4 p5 : Pos} {z : Str} {kk : Nat}
/-- what is asked of the text of super().__init__('..') -/
structure SupOk (fd : FuncData) (f : Addr) (p0 p1 p2 p3 p4 p5 : Pos) (z : Str) (kk : Nat) : Prop where
  he : ∀ L : Addr, ∃ pl : Sem Bool, eval (supE p0 p1 p2 p3 p4 z kk) (callEnv fd L f) = (do
      let ov ← attributeBase (.Call (.Name "super" p0) [] [] p1) "__init__" (callEnv fd L f) (eval (.Call (.Name "super" p0) [] [] p1) (callEnv fd L f))
      standAt p2.atName
      let (m, first) ← holding [ov] (getMethod ov "__init__" pl)
      callWith p4 m first (backTo p4 (starEach [.Constant (.str z) kk p3] (callEnv fd L f))) [])
  hi : ∀ L : Addr, interactive (callEnv fd L f) = false
  hs : ∀ L : Addr, swapsWith (supE p0 p1 p2 p3 p4 z kk) none p5.line (callEnv fd L f) = pure false
theorem ok_init {CX : CXT} {sp : Sp} {fd : FuncData} {ar : Arg} {k : Nat} (T : ExC K C f B newId initId Bs bmB) (F : InitFn P K C f ql pr (.Expr (supE p0 p1 p2 p3 p4 z kk) p5 :: rest) sc fd) (S : InitScope ps ps sc) (hp : (pr.posonlyargs ++ pr.args).head? = some ar) (p0s : ps[0]? = some ar.arg)
    (ms : mg "super" = none) (U : SupOk fd f p0 p1 p2 p3 p4 p5 z kk) (len : ∀ vs H Q E, sp vs H Q E → vs.length = ps.length)
    (self : ∀ vs H Q E, sp vs H Q E → ∃ a ws, vs = .ref a :: ws ∧ H a = some (exo a C none))
    (body : ∀ (A : Around) (outer : List Env) (s : Shared) (H : Hp) (vs : List V) (Q : VK) (E : XK), sp vs H Q E → ∃ t, PSs (cxI P w K mg base ps fd f A outer s H) rest t ∧ t { nx := fun _ H' => Q .non H', rt := Q } (start ps vs) H) :
    FnOk P w K mg base CX (k + 1) f fd ps sp := by
  refine ⟨len, fun A outer s H args us vs Q E hr e0 hb r hyp => ?_⟩
  have F0 := F
  obtain ⟨oc, kV, doc, pm, cdv, ct, od, an, osl, cl, cc, ocl, occ, fv, file, tf, efd, lf, cod, lcl, dcl, ecd, lcc, dcc, vfile, isf⟩ := F.ex
  have inS : K.In s.heap := e0.mod.kin.keeps fun b o e => (e0.bs b o e).1
  have noL : s.heap.NoLimit := e0.mod.nolimit.keeps fun b o e => (e0.bs b o e).1
  have hl := len _ _ _ _ hyp
  obtain ⟨a, ws, ev, ea⟩ := self _ _ _ _ hyp
  obtain ⟨t, pt, tt⟩ := body A outer s H vs Q E hyp
  have hcd : s.heap.CodeRec fd.code fd.qualname := by rw [efd]; exact PySem.W.codeRec_of inS cod
  refine PySem.ks_codeAny_call_defAt (body := .Expr (supE p0 p1 p2 p3 p4 z kk) p5 :: rest) hr.depth (inS _ _ lf) rfl noL hcd (by rw [efd]) hb (by rw [efd]; exact S.nocell) (fun x hx => ?_) (fun h0 ns kp => ?_) (by rw [efd]; exact S.co) (by rw [efd]; exact S.gen) (by rw [efd]; exact S.kind)
  · obtain ⟨n, v⟩ := x
    rw [efd]
    exact S.par n (List.of_mem_zip hx).1
  · have I : Inv (cxI P w K mg base ps fd f A outer s H) [] (start ps vs) H { s with heap := h0, toks := s.toks + (ps.zip us).length } := by
      rw [efd]
      exact start_init S hr.hd e0 hl r lcl dcl ns kp
    obtain ⟨pl, he⟩ := U.he s.heap.objs.size
    refine PySem.ks_wpAt_execs_cons (PySem.ks_wpAt_Expr_any (run_super T F0 S hp p0s ms I (by rw [ev]; rfl) ea he fun s2 J => ?_) (U.hi _) (U.hs _))
    refine wpAt_of_wpAny (wpAny_mono (pt.run [] s2 _ H _ J tt) (fun fl s3 h3 => ?_) fun e s3 h3 => h3.elim)
    cases fl with
    | ret u =>
      obtain ⟨v, σ', H', J', rv, q⟩ := h3
      exact ⟨v, H', J'.os, J'.bare, J'.base, J'.hok, rv, q⟩
    | next =>
      obtain ⟨σ', H', J', q⟩ := h3
      exact ⟨.non, H', J'.os, J'.bare, J'.base, J'.hok, rfl, q⟩
    | brk =>
      obtain ⟨_, _, _, q⟩ := h3
      exact q.elim
    | cont =>
      obtain ⟨_, _, _, q⟩ := h3
      exact q.elim
end
end E5

set_option maxHeartbeats 4000000
namespace E6
open PySem PySem.W
section
variable {M : Model} {prog : Program} {w : World} {A : Around} {E : Value → Shared → Prop} {R : Result → Shared → Prop} {h : Heap} {g : Array GenState} {d : Drawn} {t : Nat} {os : OsState}
variable {nm q : Str} {C N : Addr} {bs bm bmB : List Value} {hdct : Bool} {sn : List Str} {sub : List Value} {ab : Bool} {col : Option Bool} {dd : Option Addr} {k0 k1 k2 k3 k5 : Option Value} {B newId initId : String} {kw : List (Str × Value)}
theorem may_new (F : ExcBaseFacts B newId initId bmB) (cB : (Value.ref C :: bm).contains (.type B) = true) {rest : List Value} {Q : Unit → Shared → Prop}
    (hC : h.get? C = some (excClassObj nm q C N bs bm hdct sn sub ab col dd k0 k1 k2 k3 k5 newId)) (go : Q () ⟨h, g, d, t, os⟩) : wpAny M A (checkBuiltinCall newId ⟨.ref C :: rest, kw⟩) Q E ⟨h, g, d, t, os⟩ := by
  have star := F.noStar
  simp only [checkBuiltinCall, F.newKind, F.newSplit, F.newRow]
  repeat (first | refine wpAny_loadPart_at hC ?_ | (refine wpAny_isSubtype_exc hC ?_; rw [cB]) | refine wpAny_staticBase_exc hC ?_ | refine wpAny_madeBy_exc hC ?_ | simp only [bne_self_eq_false, Bool.false_eq_true, if_false] | wp_step)
  exact go
theorem new_obj (F : ExcBaseFacts B newId initId bmB) (cB : (Value.ref C :: bm).contains (.type B) = true) (cA : (Value.ref C :: bm).contains (.type "AttributeError") = false) (cN : (Value.ref C :: bm).contains (.type "NameError") = false) {rest : List Value}
    (hC : h.get? C = some (excClassObj nm q C N bs bm hdct sn sub ab col dd k0 k1 k2 k3 k5 newId)) (few : rest.length ≤ sizeLine)
    (go : R (.ok (.ret (.ref (h.objs.size + 1)))) ⟨(h.push (kdv_tup rest)).push (HandSPX.excO C h.objs.size), g, d, t, os⟩) :
    codeAny (model prog w) A (.builtin newId ⟨.ref C :: rest, kw⟩) R ⟨h, g, d, t, os⟩ := by
  have ends := F.ends
  refine codeAny_builtinAt F.entry ?_
  unfold Builtin.«BaseException.__new__»
  refine wpAt_bind ?_
  show wpAt _ _ _ (stack >>= _) _ _ _
  refine wpAt_bind (wpAt_stack fun p below => wpAt_of_wpAny ?_)
  wp_walk
  refine wpAt_of_wpAny ?_
  rw [F.owner]
  repeat (first | with_reducible refine wpAny_madeHere_exc F.canon hC ?_ | with_reducible refine wpAny_loadPart_at hC ?_ | (with_reducible refine wpAny_isSubtype_exc hC ?_; first | rw [cB] | rw [cA] | rw [cN]) | wp_step)
  show R _ _
  rw [Heap.size_push]
  exact go
theorem run_type (F : ExcBaseFacts B newId initId bmB) (cB : (Value.ref C :: bm).contains (.type B) = true) (cA : (Value.ref C :: bm).contains (.type "AttributeError") = false) (cN : (Value.ref C :: bm).contains (.type "NameError") = false) {rest : List Value} {fI : Addr} {Q : Fin → Shared → Prop}
    (hC : h.get? C = some (excClassObj nm q C N bs bm hdct sn sub ab col dd k0 k1 k2 k3 k5 newId)) (ini : Looks (model prog w) h (typeLookup (.ref C) "__init__") (some (.ref fI))) (bnd : ∀ self, Looks (model prog w) h (bindSpecial (.ref fI) self) (.ref fI, [self])) (few : rest.length ≤ sizeLine)
    (go : codeAny (model prog w) A (.call (.ref fI) ⟨.ref (h.objs.size + 1) :: rest, kw⟩)
      (fun r s' => match r with | .ok (.ret v) => v = .none ∧ Q (.done (.ret (.ref (h.objs.size + 1)))) s' | .ok _ => False | .error e => E e s') ⟨(h.push (kdv_tup rest)).push (HandSPX.excO C h.objs.size), g, d, t, os⟩) :
    wpAny (model prog w) A (Builtin.«type.__call__» ⟨.ref C :: rest, kw⟩) Q E ⟨h, g, d, t, os⟩ := by
  have up : ∀ b o, h.get? b = some o → ((h.push (kdv_tup rest)).push (HandSPX.excO C h.objs.size)).get? b = some o := fun b o e => Heap.get?_push_of_some _ (Heap.get?_push_of_some _ e)
  have hC2 := up _ _ hC
  have mine : ((h.push (kdv_tup rest)).push (HandSPX.excO C h.objs.size)).get? (h.objs.size + 1) = some (HandSPX.excO C h.objs.size) := by heap_get
  have cC : (Value.ref C :: bm).contains (.ref C) = true := by simp
  have ini2 := ini.keeps up
  have bnd2 := (bnd (.ref (h.objs.size + 1))).keeps up
  repeat (first | with_reducible refine wpAny_loadPart_at hC ?_ | with_reducible refine wpAny_madeBy_exc hC ?_ | wp_step)
  refine codeAny_call_builtin_code (Code.quiet_builtin _ F.quiet) (may_new F cB hC (new_obj F cB cA cN hC few ?_))
  show wpAny _ _ _ _ _ _
  unfold isInstance
  repeat (first | with_reducible refine wpAny_loadPart_at mine ?_ | (with_reducible refine wpAny_isSubtype_exc hC2 ?_; rw [cC]) | wp_step)
  show wpAny _ _ (typeLookup (.ref C) _) _ _ _
  refine ini2.at (wpAny_holding (wpAny_bind (bnd2.at ?_)))
  refine wpAny_bind (wpAny_call (codeAny_mono go fun r s' z => ?_))
  rcases r with e | (v | _ | _ | _) <;> first | exact z | exact z.elim | skip
  obtain ⟨rfl, z⟩ := z
  first | exact wpAny_pure (wpAny_pure z) | (wp_walk; exact z)
theorem may_call {rest : List Value} {Q : Unit → Shared → Prop} (hC : h.get? C = some (excClassObj nm q C N bs bm hdct sn sub ab col dd k0 k1 k2 k3 k5 newId)) (go : Q () ⟨h, g, d, t, os⟩) :
    wpAny M A (checkBuiltinCall "type.__call__" ⟨.ref C :: rest, kw⟩) Q E ⟨h, g, d, t, os⟩ := by
  have l3 := tc_sub
  have isT : (⟨h, g, d, t, os⟩ : Shared).TypeIs (.ref C) "type" := ⟨_, hC, rfl⟩
  simp only [checkBuiltinCall, tc_kind, tc_split]
  repeat (any_goals (first | assumption | with_reducible refine wpAny_loadPart_at hC ?_ | with_reducible refine wpAny_onRaise ?_ | with_reducible refine wpAny_map ?_ | wp_step))
theorem call_made (F : ExcBaseFacts B newId initId bmB) (cB : (Value.ref C :: bm).contains (.type B) = true) (cA : (Value.ref C :: bm).contains (.type "AttributeError") = false) (cN : (Value.ref C :: bm).contains (.type "NameError") = false) {rest : List Value} {fI : Addr}
    (hC : h.get? C = some (excClassObj nm q C N bs bm hdct sn sub ab col dd k0 k1 k2 k3 k5 newId)) (ini : Looks (model prog w) h (typeLookup (.ref C) "__init__") (some (.ref fI))) (bnd : ∀ self, Looks (model prog w) h (bindSpecial (.ref fI) self) (.ref fI, [self])) (few : rest.length ≤ sizeLine)
    (go : codeAny (model prog w) (A.under (.builtin "type.__call__" ⟨.ref C :: rest, kw⟩)) (.call (.ref fI) ⟨.ref (h.objs.size + 1) :: rest, kw⟩) (InitBack (h.objs.size + 1) R) ⟨(h.push (kdv_tup rest)).push (HandSPX.excO C h.objs.size), g, d, t, os⟩) :
    codeAny (model prog w) A (.call (.ref C) ⟨rest, kw⟩) R ⟨h, g, d, t, os⟩ := by
  have l1 := tc_lookup
  have l2 := tc_bind (.ref C)
  have isT : (⟨h, g, d, t, os⟩ : Shared).TypeIs (.ref C) "type" := ⟨_, hC, rfl⟩
  refine codeAny_of_tree ?_
  show wpAny _ _ (callAny (.ref C) _) _ _ _
  repeat (any_goals (first | assumption | with_reducible refine wpAny_loadPart_at hC ?_ | wp_step))
  refine ⟨rfl, codeAny_call_builtin_at (Code.quiet_builtin _ (by decide +kernel)) entry_typeCall (may_call hC (run_type F cB cA cN hC ini bnd few ?_))⟩
  refine codeAny_mono go fun r s' z => ?_
  rcases r with e | (v | _ | _ | _) <;> exact z
end
end E6

set_option maxHeartbeats 4000000
namespace E7
open PySem PySem.Spec PyProof.Rows L2 E2 E3 E4 E5
/-- C(..), an own error as a value -/
def tErr (C : Addr) (sp : Sp) (gV : List V → List V → List V) (ta tk : TA) : TE := fun σ H Q => ta σ H fun vs H1 => tk σ H1 fun zs H2 => vs.length ≤ 1000 ∧
  ∀ a, H2 a = none → sp (gV (.ref a :: vs) zs) (upd H2 a (exo a C none)) (fun v H3 => v = .non ∧ Q (.ref a) H3) fun _ _ _ => False
section
variable {X : Cx} {pins : List (Addr × Obj)} {σ : L2.St} {H : Hp} {s : Shared} {C fI : Addr} {B newId initId Bs : String} {bmB : List Value} {k : Nat} {fd : FuncData} {ps ks : List Str} {sp : Sp} {g : List Value → List Value → List Value} {gV : List V → List V → List V} {vs zs : List V} {us ws : List Value} {Q : VK}
theorem tl_has {l : List Value} (z : String) (h : PySem.W.excTail bmB l = true) : (Value.ref C :: l).contains (.type z) = bmB.contains (.type z) := by
  rw [List.contains_cons, PySem.W.excTail_contains z l h]
  rfl
theorem run_err (T : ExC X.K C fI B newId initId Bs bmB) (F1 : FnOk X.prog X.w X.K X.mg X.base CX0 k fI fd ps sp) (hr : Room (k + 1) X.A) (kb : KBinds X.K fd ps ks g gV) (I : Inv X pins σ H s) (r : Vals vs us) (rz : Vals zs ws) (few : vs.length ≤ 1000)
    (hyp : ∀ a, H a = none → sp (gV (.ref a :: vs) zs) (upd H a (exo a C none)) (fun v H3 => v = .non ∧ Q (.ref a) H3) fun _ _ _ => False) :
    wpAny (model X.prog X.w) X.A (call (.ref C) us (ks.zip ws)) (EP X pins σ Q) X.xe s := by
  obtain ⟨_, bmE, eb⟩ := T.un.eb
  have KX := I.kIn
  obtain ⟨nm, N', qn, bs, bm, hdct, sn, sub, ab, col, dd, k0, k1, k2, k3, k5, hC, hT⟩ := PySem.W.excInit_of KX T.made
  have con : ∀ z : String, (Value.ref C :: bm).contains (.type z) = bmB.contains (.type z) := fun z => by
    rw [List.contains_cons, hT]
    rfl
  obtain ⟨hp, g0, dr, tk, os⟩ := s
  have new : H (hp.objs.size + 1) = none := I.hok.fresh (Nat.le_succ _)
  have hq := hyp (hp.objs.size + 1) new
  have up : ∀ b o, hp.get? b = some o → ((hp.push (PySem.W.kdv_tup us)).push (HandSPX.excO C hp.objs.size)).get? b = some o := fun b o e => Heap.get?_push_of_some _ (Heap.get?_push_of_some _ e)
  have mine : ((hp.push (PySem.W.kdv_tup us)).push (HandSPX.excO C hp.objs.size)).get? (hp.objs.size + 1) = some (HandSPX.excO C hp.objs.size) := by heap_get
  have I2 : Inv X pins σ (upd H (hp.objs.size + 1) (exo (hp.objs.size + 1) C none)) ⟨(hp.push (PySem.W.kdv_tup us)).push (HandSPX.excO C hp.objs.size), g0, dr, tk, os⟩ :=
    I.laid (t' := tk) (a := hp.objs.size + 1) (o := exo (hp.objs.size + 1) C none) (h' := (hp.push (PySem.W.kdv_tup us)).push (HandSPX.excO C hp.objs.size)) up (Nat.le_succ _) (exo_ok mine)
  have r1 : Vals (V.ref (hp.objs.size + 1) :: vs) (Value.ref (hp.objs.size + 1) :: us) := .cons rfl r
  have r2 := kb.rel r1 rz
  have hl : (g (Value.ref (hp.objs.size + 1) :: us) ws).length = ps.length := by
    rw [← r2.length, F1.len _ _ _ _ hq]
  have hus : us.length ≤ sizeLine := by
    rw [← Paired.length r, sizeLine_eq]
    omega
  obtain ⟨oI, hoI, hcI⟩ : ∃ oI, hp.get? fI = some oI ∧ oI.cls = .type "function" := by
    obtain ⟨o, ho, hc⟩ := Option.map_eq_some_iff.mp (show (X.K.lookup fI).map (·.cls) = some (.type "function") from beq_iff_eq.mp T.isF)
    exact ⟨o, KX _ _ ho, hc⟩
  refine wpAny_call (E6.call_made eb ((con B).trans T.un.hasB) ((con _).trans T.un.noA) ((con _).trans T.un.noN) hC (PySem.W.looks_findIn KX T.ini) (fun self => PySem.W.exc_bind hoI hcI self) hus ?_)
  refine codeAny_mono (F1.run _ X.stack _ _ ⟨Value.ref (hp.objs.size + 1) :: us, ks.zip ws⟩ (g (Value.ref (hp.objs.size + 1) :: us) ws) _ _ (fun _ _ _ => False) (hr.make C us (ks.zip ws)) (I2.env0.make C us (ks.zip ws)) (kb.to _ _ ws I2.kIn hl) r2 hq) fun rr s' hq' => ?_
  match rr, hq' with
  | .error er, z => exact z.elim
  | .ok .next, z => exact z.elim
  | .ok .brk, z => exact z.elim
  | .ok .cont, z => exact z.elim
  | .ok (.ret u), z =>
    obtain ⟨v, H3, I3, rv, ev, q3⟩ := I2.after z
    subst ev
    exact ⟨rv, .ref _, H3, I3, rfl, q3⟩
end
section
variable {X : Cx} {C fI : Addr} {B newId initId Bs : String} {bmB : List Value} {k : Nat} {fd : FuncData} {ps ks : List Str} {sp : Sp} {g : List Value → List Value → List Value} {gV : List V → List V → List V} {x : Str} {p pos : Pos} {e : Expr} {es : List Expr} {kws : List Keyword} {ta tk : TA}
/-- C(e, ..) -/
theorem pe_err (T : ExC X.K C fI B newId initId Bs bmB) (F1 : FnOk X.prog X.w X.K X.mg X.base CX0 k fI fd ps sp) (hr : Room (k + 1) X.A) (kb : KBinds X.K fd ps [] g gV) (hg : Gl X x) (hm : X.mg x = some (.ref C)) (ha : PA X (e :: es) ta)
    (hdb : (x == ("__debug__" : Str)) = false := by decide) (he : starEach (e :: es) X.env = (false, eval e X.env) :: starEach es X.env := by rfl) (hpl : (backTo pos (starEach es X.env)).any (·.1) = false := by rfl) :
    PE X (.Call (.Name x p) (e :: es) [] pos) (tErr C sp gV ta tNil) := by
  refine ⟨fun pins s σ H Q I hyp => wpAny_Call_Name_kw (ld_glob I hg hm ?_ hdb)⟩
  refine PySem.W.callWith_K (h₀ := X.base) I.ok.mod.kin T.kC (thn (ha.run pos pins s σ H _ I hyp) fun us s1 ⟨vs, H1, I1, r1, few, q1⟩ => ⟨I1.kIn, ?_⟩) he hpl
  exact run_err (ks := []) (ws := []) (zs := []) T F1 hr kb I1 r1 .nil few q1
/-- C(k = v, ..) -/
theorem pe_errK (T : ExC X.K C fI B newId initId Bs bmB) (F1 : FnOk X.prog X.w X.K X.mg X.base CX0 k fI fd ps sp) (hr : Room (k + 1) X.A) (kb : KBinds X.K fd ps ks g gV) (hg : Gl X x) (hm : X.mg x = some (.ref C)) (pk : PK X kws tk)
    (h1 : (backToKw pos (keywordEach kws X.env)).all (·.1.isSome) = true := by rfl) (h2 : (backToKw pos (keywordEach kws X.env)).filterMap (·.1) = ks := by rfl) (h3 : (x == ("__debug__" : Str)) = false := by decide)
    (h4 : ((backTo pos (starEach [] X.env)).any (·.1) || (backToKw pos (keywordEach kws X.env)).any (·.1.isNone)) = false := by rfl) :
    PE X (.Call (.Name x p) [] kws pos) (tErr C sp gV tNil tk) := by
  refine ⟨fun pins s σ H Q I hyp => wpAny_Call_Name_kw (ld_glob I hg hm ?_ h3)⟩
  refine PySem.W.callWith_KW0 (h₀ := X.base) I.ok.mod.kin T.kC h1 (thn (pk.run pos pins s σ H _ I hyp) fun ws s2 ⟨zs, H2, I2, rz, few, q2⟩ => ⟨I2.kIn, ?_⟩) h4
  rw [h2]
  exact run_err (us := []) (vs := []) T F1 hr kb I2 .nil rz few q2
end
end E7

set_option maxHeartbeats 4000000
namespace E8
open PySem PySem.Spec PyProof.Rows L2 E2 E3 E4 E5 E7
/-- err.f -/
def tErrF (K : PySem.W.Frag) (f : Str) (te : TE) : TE := fun σ H Q => te σ H fun x H1 => ∃ (a C dx : Addr) (fs : List (Str × V)) (v : V), x = .ref a ∧ ExcC K C ∧ PySem.W.findIn K (.ref C) f = some none ∧ H1 a = some (exo a C (some dx)) ∧ H1 dx = some (exd dx fs) ∧ fs.lookup f = some v ∧ Q v H1
theorem pe_errF {X : Cx} {e : Expr} {te : TE} {pos : Pos} {n : Str} (he : PE X e te) (hb : attributeBase e n X.env (eval e X.env) = eval e X.env := by rfl) : PE X (.Attribute e n pos) (tErrF X.K n te) := by
  refine ⟨fun pins s σ H Q I hyp => attr_of hb (thn (he.run pins s σ H _ I hyp) fun u s1 hh => ?_)⟩
  obtain ⟨x, H1, I1, rx, a, C, dx, fs, v, ex, T, no, ea, ed, l, q⟩ := hh
  subst ex
  obtain rfl : u = Value.ref a := rx
  obtain ⟨t1, at0⟩ := exo_at I1.hok ea
  obtain ⟨mA, nsD, rel⟩ := exd_at I1.hok ed
  obtain ⟨od, ho, hl⟩ := lookIn_ns nsD
  obtain ⟨u, hu, ru⟩ := RelO.some_of (v := v) (o := mA n) (by rw [← l]; exact rel n)
  have J : PySem.W.InstAt s1.heap a _ C (some od) := ⟨at0, rfl, rfl, ho⟩
  exact HandSPX.exc_get I1.kIn J T.hg T.hk T.hs (PySem.W.findObj_own T.hd no rfl (by rw [hl, hu])) (handed_of ru) ⟨v, H1, I1.tok _, ru, q⟩
end E8

set_option maxHeartbeats 4000000
namespace E9
open PySem PySem.Spec PyProof.Rows L2 E2 E3 E4 E5 E7 E8
/-- an own error at a, of the class at C, with these fields -/
def ErrAt (H : Hp) (a C : Addr) (fs : List (Str × V)) : Prop := (fs = [] ∧ H a = some (exo a C none)) ∨ ∃ dx, H a = some (exo a C (some dx)) ∧ H dx = some (exd dx fs)
/-- the same, its fields in a new dict -/
def ErrNew (H0 H : Hp) (a C : Addr) (fs : List (Str × V)) : Prop := (fs = [] ∧ H a = some (exo a C none)) ∨ ∃ dx, H a = some (exo a C (some dx)) ∧ H dx = some (exd dx fs) ∧ H0 dx = none
theorem ErrNew.at {H0 H : Hp} {a C : Addr} {fs : List (Str × V)} (h : ErrNew H0 H a C fs) : ErrAt H a C fs := by
  rcases h with h | ⟨dx, h1, h2, _⟩
  · exact .inl h
  · exact .inr ⟨dx, h1, h2⟩
/-- new things at a and d alone -/
def Grow (H H' : Hp) (a : Addr) : Prop := ∀ b o, H b = some o → b ≠ a → H' b = some o
def names : List Str → List V → List (Str × V)
  | f :: fs, v :: vs => names fs vs ++ [(f, v)]
  | _, _ => []
def spI (C : Addr) (fn : List Str) : Sp := fun vs H Q _ => ∃ (a : Addr) (ws : List V), vs = .ref a :: ws ∧ ws.length = fn.length ∧ H a = some (exo a C none) ∧
  ∀ H', Grow H H' a → ErrNew H H' a C (names fn ws) → Q .non H'
section
variable {P : Program} {w : World} {K : PySem.W.Frag} {mg : Str → Option Value} {base : Heap} {C f : Addr} {ql : Str} {pr : Arguments} {sc : Scope} {B newId initId Bs : String} {bmB : List Value} {p0 p1 p2 p3 p4 p5 : Pos} {z : Str} {kk : Nat} {fd : FuncData} {ar : Arg} {k : Nat}
structure Nm (x : Str) : Prop where
  db : (x == ("__debug__" : Str)) = false
  cd : (x == ("__classdict__" : Str)) = false
theorem nm_self : Nm "self" := ⟨by decide, by decide⟩
theorem ok0 (T : ExC K C f B newId initId Bs bmB) (F : InitFn P K C f ql pr [.Expr (supE p0 p1 p2 p3 p4 z kk) p5] sc fd) (S : InitScope ["self"] ["self"] sc) (hp : (pr.posonlyargs ++ pr.args).head? = some ar) (h0 : ("self" : Str) = ar.arg) (ms : mg "super" = none) (U : SupOk fd f p0 p1 p2 p3 p4 p5 z kk) :
    FnOk P w K mg base CX0 (k + 1) f fd ["self"] (spI C []) := by
  refine ok_init T F S hp (by rw [← h0]; rfl) ms U (fun vs H Q E hyp => ?_) (fun vs H Q E hyp => ?_) (fun A outer s H vs Q E hyp => ?_)
  · obtain ⟨a, ws, rfl, hl, _⟩ := hyp
    rw [List.length_cons, hl]
    rfl
  · obtain ⟨a, ws, rfl, _, ea, _⟩ := hyp
    exact ⟨a, ws, rfl, ea⟩
  · obtain ⟨a, ws, rfl, hl, ea, q⟩ := hyp
    have e : ws = [] := List.length_eq_zero_iff.mp hl
    subst e
    exact ⟨_, pss_nil, q H (fun b o h _ => h) (.inl ⟨rfl, ea⟩)⟩
/-- self.x = x -/
abbrev keepS (x : Str) (q1 q2 q3 q4 : Pos) : Stmt := .Assign [.Attribute (.Name "self" q1) x q2] (.Name x q3) q4
theorem tak_name {x : Str} {X : Cx} {i : Nat} {pos : Pos} (n : Nm x) (hi : X.N[i]? = some x) (hv : X.env.scope.names.lookup x = some .local) : PE X (.Name x pos) (tVar i) := pe_var hi (.inl hv) n.db n.cd
theorem ok1 {x1 : Str} {a1 a2 a3 a4 : Pos} (T : ExC K C f B newId initId Bs bmB) (F : InitFn P K C f ql pr [.Expr (supE p0 p1 p2 p3 p4 z kk) p5, keepS x1 a1 a2 a3 a4] sc fd) (S : InitScope ["self", x1] ["self", x1] sc) (hp : (pr.posonlyargs ++ pr.args).head? = some ar) (h0 : ("self" : Str) = ar.arg) (ms : mg "super" = none) (U : SupOk fd f p0 p1 p2 p3 p4 p5 z kk)
    (n1 : Nm x1) (k1 : PySem.W.takerIn K C x1 = some none) : FnOk P w K mg base CX0 (k + 1) f fd ["self", x1] (spI C [x1]) := by
  refine ok_init T F S hp (by rw [← h0]; rfl) ms U (fun vs H Q E hyp => ?_) (fun vs H Q E hyp => ?_) (fun A outer s H vs Q E hyp => ?_)
  · obtain ⟨a, ws, rfl, hl, _⟩ := hyp
    rw [List.length_cons, hl]
    rfl
  · obtain ⟨a, ws, rfl, _, ea, _⟩ := hyp
    exact ⟨a, ws, rfl, ea⟩
  · obtain ⟨a, ws, rfl, hl, ea, q⟩ := hyp
    match ws, hl with
    | [v1], _ =>
      have env : (cxI P w K mg base ["self", x1] fd f A outer s H).env.scope = sc := by
        obtain ⟨oc, kV, doc, pm, cdv, ct, od, an, osl, cl, cc, ocl, occ, fv, file, tf, efd, _⟩ := F.ex
        rw [efd]
        rfl
      refine ⟨_, pss_one (ps_keep (tak_name (i := 0) nm_self rfl (by rw [env]; exact S.par _ (by simp))) (tak_name (i := 1) n1 rfl (by rw [env]; exact S.par _ (by simp)))), ?_⟩
      refine ⟨v1, rfl, .ref a, rfl, a, C, f, B, newId, initId, Bs, bmB, rfl, T, k1, .inl ⟨ea, fun dx nd ne => ?_⟩⟩
      refine q _ (fun b o hb hba => ?_) (.inr ⟨dx, upd_same, ?_, nd⟩)
      · rw [upd_ne hba, upd_ne (ne_of_none hb nd)]
        exact hb
      · rw [upd_ne ne]
        exact upd_same
theorem ok2 {x1 : Str} {a11 a21 a31 a41 : Pos} {x2 : Str} {a12 a22 a32 a42 : Pos} (T : ExC K C f B newId initId Bs bmB) (F : InitFn P K C f ql pr (.Expr (supE p0 p1 p2 p3 p4 z kk) p5 :: [keepS x1 a11 a21 a31 a41, keepS x2 a12 a22 a32 a42]) sc fd) (S : InitScope ["self", x1, x2] ["self", x1, x2] sc) (hp : (pr.posonlyargs ++ pr.args).head? = some ar) (h0 : ("self" : Str) = ar.arg) (ms : mg "super" = none) (U : SupOk fd f p0 p1 p2 p3 p4 p5 z kk)
    (n1 : Nm x1) (k1 : PySem.W.takerIn K C x1 = some none) (n2 : Nm x2) (k2 : PySem.W.takerIn K C x2 = some none) : FnOk P w K mg base CX0 (k + 1) f fd ["self", x1, x2] (spI C [x1, x2]) := by
  refine ok_init T F S hp (by rw [← h0]; rfl) ms U (fun vs H Q E hyp => ?_) (fun vs H Q E hyp => ?_) (fun A outer s H vs Q E hyp => ?_)
  · obtain ⟨a, ws, rfl, hl, _⟩ := hyp
    rw [List.length_cons, hl]
    rfl
  · obtain ⟨a, ws, rfl, _, ea, _⟩ := hyp
    exact ⟨a, ws, rfl, ea⟩
  · obtain ⟨a, ws, rfl, hl, ea, q⟩ := hyp
    match ws, hl with
    | [v1, v2], _ =>
      have env : (cxI P w K mg base ["self", x1, x2] fd f A outer s H).env.scope = sc := by
        obtain ⟨oc, kV, doc, pm, cdv, ct, od, an, osl, cl, cc, ocl, occ, fv, file, tf, efd, _⟩ := F.ex
        rw [efd]
        rfl
      refine ⟨_, pss_cons (ps_keep (tak_name (i := 0) nm_self rfl (by rw [env]; exact S.par _ (by simp))) (tak_name (i := 1) n1 rfl (by rw [env]; exact S.par _ (by simp)))) (pss_one (ps_keep (tak_name (i := 0) nm_self rfl (by rw [env]; exact S.par _ (by simp))) (tak_name (i := 2) n2 rfl (by rw [env]; exact S.par _ (by simp))))), ?_⟩
      refine ⟨v1, rfl, .ref a, rfl, a, C, f, B, newId, initId, Bs, bmB, rfl, T, k1, .inl ⟨ea, fun dx nd ne => ?_⟩⟩
      have ha1 : (upd (upd H dx (exd dx [(x1, v1)])) a (exo a C (some dx))) a = some (exo a C (some dx)) := upd_same
      have hd1 : (upd (upd H dx (exd dx [(x1, v1)])) a (exo a C (some dx))) dx = some (exd dx [(x1, v1)]) := by
        rw [upd_ne ne]
        exact upd_same
      have hg1 : Grow H (upd (upd H dx (exd dx [(x1, v1)])) a (exo a C (some dx))) a := fun b o hb hba => by
        rw [upd_ne hba, upd_ne (ne_of_none hb nd)]
        exact hb
      generalize upd (upd H dx (exd dx [(x1, v1)])) a (exo a C (some dx)) = H1 at ha1 hd1 hg1 ⊢
      refine ⟨v2, rfl, .ref a, rfl, a, C, f, B, newId, initId, Bs, bmB, rfl, T, k2, .inr ⟨dx, _, ha1, hd1, by simp, ?_⟩⟩
      have ha2 : (upd H1 dx (exd dx [(x2, v2), (x1, v1)])) a = some (exo a C (some dx)) := by
        rw [upd_ne ne.symm]
        exact ha1
      have hd2 : (upd H1 dx (exd dx [(x2, v2), (x1, v1)])) dx = some (exd dx [(x2, v2), (x1, v1)]) := upd_same
      have hg2 : Grow H (upd H1 dx (exd dx [(x2, v2), (x1, v1)])) a := fun b o hb hba => by
        rw [upd_ne (ne_of_none hb nd)]
        exact hg1 b o hb hba
      generalize upd H1 dx (exd dx [(x2, v2), (x1, v1)]) = H2 at ha2 hd2 hg2 ⊢
      exact q _ hg2 (.inr ⟨dx, ha2, hd2, nd⟩)
theorem ok3 {x1 : Str} {a11 a21 a31 a41 : Pos} {x2 : Str} {a12 a22 a32 a42 : Pos} {x3 : Str} {a13 a23 a33 a43 : Pos} (T : ExC K C f B newId initId Bs bmB) (F : InitFn P K C f ql pr (.Expr (supE p0 p1 p2 p3 p4 z kk) p5 :: [keepS x1 a11 a21 a31 a41, keepS x2 a12 a22 a32 a42, keepS x3 a13 a23 a33 a43]) sc fd) (S : InitScope ["self", x1, x2, x3] ["self", x1, x2, x3] sc) (hp : (pr.posonlyargs ++ pr.args).head? = some ar) (h0 : ("self" : Str) = ar.arg) (ms : mg "super" = none) (U : SupOk fd f p0 p1 p2 p3 p4 p5 z kk)
    (n1 : Nm x1) (k1 : PySem.W.takerIn K C x1 = some none) (n2 : Nm x2) (k2 : PySem.W.takerIn K C x2 = some none) (n3 : Nm x3) (k3 : PySem.W.takerIn K C x3 = some none) : FnOk P w K mg base CX0 (k + 1) f fd ["self", x1, x2, x3] (spI C [x1, x2, x3]) := by
  refine ok_init T F S hp (by rw [← h0]; rfl) ms U (fun vs H Q E hyp => ?_) (fun vs H Q E hyp => ?_) (fun A outer s H vs Q E hyp => ?_)
  · obtain ⟨a, ws, rfl, hl, _⟩ := hyp
    rw [List.length_cons, hl]
    rfl
  · obtain ⟨a, ws, rfl, _, ea, _⟩ := hyp
    exact ⟨a, ws, rfl, ea⟩
  · obtain ⟨a, ws, rfl, hl, ea, q⟩ := hyp
    match ws, hl with
    | [v1, v2, v3], _ =>
      have env : (cxI P w K mg base ["self", x1, x2, x3] fd f A outer s H).env.scope = sc := by
        obtain ⟨oc, kV, doc, pm, cdv, ct, od, an, osl, cl, cc, ocl, occ, fv, file, tf, efd, _⟩ := F.ex
        rw [efd]
        rfl
      refine ⟨_, pss_cons (ps_keep (tak_name (i := 0) nm_self rfl (by rw [env]; exact S.par _ (by simp))) (tak_name (i := 1) n1 rfl (by rw [env]; exact S.par _ (by simp)))) (pss_cons (ps_keep (tak_name (i := 0) nm_self rfl (by rw [env]; exact S.par _ (by simp))) (tak_name (i := 2) n2 rfl (by rw [env]; exact S.par _ (by simp)))) (pss_one (ps_keep (tak_name (i := 0) nm_self rfl (by rw [env]; exact S.par _ (by simp))) (tak_name (i := 3) n3 rfl (by rw [env]; exact S.par _ (by simp)))))), ?_⟩
      refine ⟨v1, rfl, .ref a, rfl, a, C, f, B, newId, initId, Bs, bmB, rfl, T, k1, .inl ⟨ea, fun dx nd ne => ?_⟩⟩
      have ha1 : (upd (upd H dx (exd dx [(x1, v1)])) a (exo a C (some dx))) a = some (exo a C (some dx)) := upd_same
      have hd1 : (upd (upd H dx (exd dx [(x1, v1)])) a (exo a C (some dx))) dx = some (exd dx [(x1, v1)]) := by
        rw [upd_ne ne]
        exact upd_same
      have hg1 : Grow H (upd (upd H dx (exd dx [(x1, v1)])) a (exo a C (some dx))) a := fun b o hb hba => by
        rw [upd_ne hba, upd_ne (ne_of_none hb nd)]
        exact hb
      generalize upd (upd H dx (exd dx [(x1, v1)])) a (exo a C (some dx)) = H1 at ha1 hd1 hg1 ⊢
      refine ⟨v2, rfl, .ref a, rfl, a, C, f, B, newId, initId, Bs, bmB, rfl, T, k2, .inr ⟨dx, _, ha1, hd1, by simp, ?_⟩⟩
      have ha2 : (upd H1 dx (exd dx [(x2, v2), (x1, v1)])) a = some (exo a C (some dx)) := by
        rw [upd_ne ne.symm]
        exact ha1
      have hd2 : (upd H1 dx (exd dx [(x2, v2), (x1, v1)])) dx = some (exd dx [(x2, v2), (x1, v1)]) := upd_same
      have hg2 : Grow H (upd H1 dx (exd dx [(x2, v2), (x1, v1)])) a := fun b o hb hba => by
        rw [upd_ne (ne_of_none hb nd)]
        exact hg1 b o hb hba
      generalize upd H1 dx (exd dx [(x2, v2), (x1, v1)]) = H2 at ha2 hd2 hg2 ⊢
      refine ⟨v3, rfl, .ref a, rfl, a, C, f, B, newId, initId, Bs, bmB, rfl, T, k3, .inr ⟨dx, _, ha2, hd2, by simp, ?_⟩⟩
      have ha3 : (upd H2 dx (exd dx [(x3, v3), (x2, v2), (x1, v1)])) a = some (exo a C (some dx)) := by
        rw [upd_ne ne.symm]
        exact ha2
      have hd3 : (upd H2 dx (exd dx [(x3, v3), (x2, v2), (x1, v1)])) dx = some (exd dx [(x3, v3), (x2, v2), (x1, v1)]) := upd_same
      have hg3 : Grow H (upd H2 dx (exd dx [(x3, v3), (x2, v2), (x1, v1)])) a := fun b o hb hba => by
        rw [upd_ne (ne_of_none hb nd)]
        exact hg2 b o hb hba
      generalize upd H2 dx (exd dx [(x3, v3), (x2, v2), (x1, v1)]) = H3 at ha3 hd3 hg3 ⊢
      exact q _ hg3 (.inr ⟨dx, ha3, hd3, nd⟩)
end
end E9

set_option maxHeartbeats 4000000
namespace EA
open PySem PySem.Spec PyProof.Rows L2 E2 E3 E4 E5 E7 E8 E9
section
variable {X : Cx} {pins : List (Addr × Obj)} {σ : L2.St}
/-- an error without fields is let go of -/
theorem let_go {H1 H2 : Hp} {hp hp2 h2 : Heap} {g1 g2 : Array GenState} {d1 d2 : Drawn} {t1 t2 : Nat} {os1 os2 : OsState} {a C : Addr} (I1 : Inv X pins σ H1 ⟨hp, g1, d1, t1, os1⟩) (ha : hp.objs.size ≤ a) (k : ∀ b o, hp.get? b = some o → hp2.get? b = some o)
    (un : Un (frs X.stack) [] (upd H1 a (exo a C none)) H2 hp2 h2) (hok : HOk X.prog X.w H2 h2) (ho : os2 = os1) (hb : AllBare g2) (ea : H2 a = some (exo a C none)) :
    ∃ (t0 : Addr) (G : Heap), Inv X pins σ (del H2 a) ⟨G, g2, d2, t2, os2⟩ ∧ (∀ b o, G.get? b = some o → h2.get? b = some o) ∧ G.get? a = none ∧
      h2.get? a = some ({ cls := .ref C, dict := none, data := .fields #[.ref t0, .none, .none, .none, .bool false, .none] } : Obj) := by
  obtain ⟨t0, at2⟩ := exo_at hok ea
  have new : H1 a = none := I1.hok.fresh ha
  obtain ⟨G, gin, gout⟩ := restrict h2 fun b => decide (b ≠ a)
  have gk : ∀ b, b ≠ a → G.get? b = h2.get? b := fun b nb => gin b (decide_eq_true nb)
  have ga : G.get? a = none := gout a (by simp)
  have off : ∀ {b : Addr} {o : Obj}, hp.get? b = some o → b ≠ a := fun {b o} q => Nat.ne_of_lt (Nat.lt_of_lt_of_le (Heap.lt_size q) ha)
  have un0 : ∀ {b : Addr}, b ≠ a → H1 b = none → upd H1 a (exo a C none) b = none := fun {b} nb n => by
    rw [upd_ne nb]
    exact n
  have un1 : ∀ {b : Addr} {o : HO}, H1 b = some o → upd H1 a (exo a C none) b = some o ∧ b ≠ a := fun {b o} q => by
    have nb := ne_of_none q new
    exact ⟨by rw [upd_ne nb]; exact q, nb⟩
  have U : Un (frs X.stack) [] H1 (del H2 a) hp G :=
    { keep := fun b o q n hf hx => by
        rw [gk b (off q)]
        exact un.keep b o (k b o q) (un0 (off q) n) hf hx
      slot := fun b o q n hf hx => by
        rw [gk b (off q)]
        exact un.slot b o (k b o q) (un0 (off q) n) hf hx
      free := fun b o q n hx => by
        rw [del_ne (off q)]
        exact un.free b o (k b o q) (un0 (off q) n) hx
      there := fun b o q hx => by
        rw [gk b (off q)]
        exact un.there b o (k b o q) hx
      tups := fun b xs q => by
        rw [del_ne (un1 q).2]
        exact un.tups b xs (un1 q).1
      frzs := fun b o v q => by
        rw [del_ne (un1 q).2]
        exact un.frzs b o v (un1 q).1
      tbls := fun b ps q => by
        rw [del_ne (un1 q).2]
        exact un.tbls b ps (un1 q).1 }
  have hokG : HOk X.prog X.w (del H2 a) G := fun b o q => by
    have nb : b ≠ a := fun e => by
      rw [e, del_same] at q
      cases q
    rw [del_ne nb] at q
    have noO : ∀ {c : Addr}, H2 c = some (.own b) → c ≠ a := fun {c} hc => at_ne ea hc exo_own
    refine (hok b o q).stay (fun c v hc y => ?_) (fun c hc => by rw [del_ne (noO hc)]; exact hc) (fun c xs hc => by rw [del_ne (at_ne ea hc exo_tup)]; exact hc)
    have nc : c ≠ a := by
      rcases hc with hc | hc
      · rw [hc]
        exact nb
      · exact noO hc
    rw [gk c nc]
    exact y
  refine ⟨t0, G, I1.call' (ch := []) ho U hokG hb (fun b q => absurd q (by simp)), fun b o q => ?_, ga, at2⟩
  by_cases nb : b = a
  · rw [nb, ga] at q
    cases q
  · exact (gk b nb).symm.trans q
/-- C(e, ..) that is to be raised -/
def tMkE (C : Addr) (sp : Sp) (gV : List V → List V → List V) (ta : TA) : L2.St → Hp → XK → Prop := fun σ H Q => ta σ H fun vs H1 => vs.length ≤ 1000 ∧ ∀ a, H1 a = none → sp (gV (.ref a :: vs) []) (upd H1 a (exo a C none))
  (fun v H2 => v = .non ∧ ((∃ (d : Addr) (fs : List (Str × V)), H2 a = some (exo a C (some d)) ∧ H2 d = some (exd d fs) ∧ H1 d = none ∧ Q (.ref C) (some d) (upd (del H2 a) d (.xd fs))) ∨ (H2 a = some (exo a C none) ∧ Q (.ref C) none (del H2 a)))) fun _ _ _ => False
theorem run_mk {C fI : Addr} {B newId initId Bs : String} {bmB : List Value} {k : Nat} {fd : FuncData} {ps : List Str} {sp : Sp} {g : List Value → List Value → List Value} {gV : List V → List V → List V} {H : Hp} {s : Shared} {vs : List V} {us : List Value} {Q : XK}
    (T : ExC X.K C fI B newId initId Bs bmB) (F1 : FnOk X.prog X.w X.K X.mg X.base CX0 k fI fd ps sp) (hr : Room (k + 1) X.A) (kb : KBinds X.K fd ps [] g gV) (I : Inv X pins σ H s) (r : Vals vs us) (few : vs.length ≤ 1000)
    (hyp : ∀ a, H a = none → sp (gV (.ref a :: vs) []) (upd H a (exo a C none)) (fun v H2 => v = .non ∧ ((∃ (d : Addr) (fs : List (Str × V)), H2 a = some (exo a C (some d)) ∧ H2 d = some (exd d fs) ∧ H d = none ∧ Q (.ref C) (some d) (upd (del H2 a) d (.xd fs))) ∨ (H2 a = some (exo a C none) ∧ Q (.ref C) none (del H2 a)))) fun _ _ _ => False) :
    wpAny (model X.prog X.w) X.A (call (.ref C) us) (MkP X pins σ Q) X.xe s := by
  obtain ⟨_, bmE, eb⟩ := T.un.eb
  have KX := I.kIn
  obtain ⟨nm, N', qn, bs, bm, hdct, sn, sub, ab, col, dd, k0, k1, k2, k3, k5, hC, hT⟩ := PySem.W.excInit_of KX T.made
  have con : ∀ z : String, (Value.ref C :: bm).contains (.type z) = bmB.contains (.type z) := fun z => by
    rw [List.contains_cons, hT]
    rfl
  obtain ⟨hp, g0, dr, tk, os⟩ := s
  have new : H (hp.objs.size + 1) = none := I.hok.fresh (Nat.le_succ _)
  have hq := hyp (hp.objs.size + 1) new
  have up : ∀ b o, hp.get? b = some o → ((hp.push (PySem.W.kdv_tup us)).push (HandSPX.excO C hp.objs.size)).get? b = some o := fun b o e => Heap.get?_push_of_some _ (Heap.get?_push_of_some _ e)
  have mine : ((hp.push (PySem.W.kdv_tup us)).push (HandSPX.excO C hp.objs.size)).get? (hp.objs.size + 1) = some (HandSPX.excO C hp.objs.size) := by heap_get
  have I2 : Inv X pins σ (upd H (hp.objs.size + 1) (exo (hp.objs.size + 1) C none)) ⟨(hp.push (PySem.W.kdv_tup us)).push (HandSPX.excO C hp.objs.size), g0, dr, tk, os⟩ :=
    I.laid (t' := tk) (a := hp.objs.size + 1) (o := exo (hp.objs.size + 1) C none) (h' := (hp.push (PySem.W.kdv_tup us)).push (HandSPX.excO C hp.objs.size)) up (Nat.le_succ _) (exo_ok mine)
  have r1 : Vals (V.ref (hp.objs.size + 1) :: vs) (Value.ref (hp.objs.size + 1) :: us) := .cons rfl r
  have r2 := kb.rel r1 Paired.nil
  have hl : (g (Value.ref (hp.objs.size + 1) :: us) []).length = ps.length := by
    rw [← r2.length, F1.len _ _ _ _ hq]
  have hus : us.length ≤ sizeLine := by
    rw [← Paired.length r, sizeLine_eq]
    omega
  obtain ⟨oI, hoI, hcI⟩ : ∃ oI, hp.get? fI = some oI ∧ oI.cls = .type "function" := by
    obtain ⟨o, ho, hc⟩ := Option.map_eq_some_iff.mp (show (X.K.lookup fI).map (·.cls) = some (.type "function") from beq_iff_eq.mp T.isF)
    exact ⟨o, KX _ _ ho, hc⟩
  refine wpAny_call (E6.call_made (kw := []) eb ((con B).trans T.un.hasB) ((con _).trans T.un.noA) ((con _).trans T.un.noN) hC (PySem.W.looks_findIn KX T.ini) (fun self => PySem.W.exc_bind hoI hcI self) hus ?_)
  refine codeAny_mono (F1.run _ X.stack _ _ ⟨Value.ref (hp.objs.size + 1) :: us, []⟩ (g (Value.ref (hp.objs.size + 1) :: us) []) _ _ (fun _ _ _ => False) (hr.make C us []) (I2.env0.make C us []) (kb.to _ _ [] I2.kIn hl) r2 hq) fun rr s' hq' => ?_
  match rr, hq' with
  | .error er, z => exact z.elim
  | .ok .next, z => exact z.elim
  | .ok .brk, z => exact z.elim
  | .ok .cont, z => exact z.elim
  | .ok (.ret u), ⟨v, H2, os2, bare2, un2, hok2, rv, ev, q2⟩ =>
    subst ev
    obtain ⟨h2, g2, d2, t2, os'⟩ := s'
    refine ⟨rv, ?_⟩
    rcases q2 with ⟨d, fs, ea, ed, nd, q⟩ | ⟨ea, q⟩
    · exact mk_end (raises_own T.exC T.tyC) I (Nat.le_succ _) up un2 hok2 os2 bare2 ea ed nd q
    · obtain ⟨t0, G, J, kG, ge, at2⟩ := let_go (d2 := d2) (t2 := t2) I (Nat.le_succ _) up un2 hok2 os2 bare2 ea
      exact ⟨hp.objs.size + 1, _, _, ⟨G, g2, d2, t2, os'⟩, _, .ref C, none, rfl, J, kG, ge, at2, ⟨rfl, rfl⟩, rfl, rfl, del_same, rfl, bare2, raises_own T.exC T.tyC, q⟩
end
section
variable {X : Cx} {C fI : Addr} {B newId initId Bs : String} {bmB : List Value} {k : Nat} {fd : FuncData} {ps : List Str} {sp : Sp} {g : List Value → List Value → List Value} {gV : List V → List V → List V} {x : Str} {p pos : Pos} {e : Expr} {es : List Expr} {ta : TA}
theorem pmk_err (T : ExC X.K C fI B newId initId Bs bmB) (F1 : FnOk X.prog X.w X.K X.mg X.base CX0 k fI fd ps sp) (hr : Room (k + 1) X.A) (kb : KBinds X.K fd ps [] g gV) (hg : Gl X x) (hm : X.mg x = some (.ref C)) (ha : PA X (e :: es) ta)
    (hdb : (x == ("__debug__" : Str)) = false := by decide) (he : starEach (e :: es) X.env = (false, eval e X.env) :: starEach es X.env := by rfl) (hpl : (backTo pos (starEach es X.env)).any (·.1) = false := by rfl) :
    PMk X (.Call (.Name x p) (e :: es) [] pos) (tMkE C sp gV ta) := by
  intro pins s σ H Q I hyp
  refine wpAny_Call_Name_kw (ld_glob I hg hm ?_ hdb)
  refine PySem.W.callWith_K (h₀ := X.base) I.ok.mod.kin T.kC (thn (ha.run pos pins s σ H _ I hyp) fun us s1 ⟨vs, H1, I1, r1, few, q1⟩ => ⟨I1.kIn, ?_⟩) he hpl
  exact run_mk T F1 hr kb I1 r1 few q1
theorem pmk_err0 (T : ExC X.K C fI B newId initId Bs bmB) (F1 : FnOk X.prog X.w X.K X.mg X.base CX0 k fI fd ps sp) (hr : Room (k + 1) X.A) (kb : KBinds X.K fd ps [] g gV) (hg : Gl X x) (hm : X.mg x = some (.ref C)) (hdb : (x == ("__debug__" : Str)) = false := by decide) :
    PMk X (.Call (.Name x p) [] [] pos) (tMkE C sp gV tNil) := by
  intro pins s σ H Q I hyp
  refine wpAny_Call_Name_kw (ld_glob I hg hm ?_ hdb)
  exact PySem.W.callWith_K0 I.kIn T.kC (run_mk (us := []) (vs := []) T F1 hr kb I .nil hyp.1 hyp.2)
theorem pe_err0 (T : ExC X.K C fI B newId initId Bs bmB) (F1 : FnOk X.prog X.w X.K X.mg X.base CX0 k fI fd ps sp) (hr : Room (k + 1) X.A) (kb : KBinds X.K fd ps [] g gV) (hg : Gl X x) (hm : X.mg x = some (.ref C)) (hdb : (x == ("__debug__" : Str)) = false := by decide) :
    PE X (.Call (.Name x p) [] [] pos) (tErr C sp gV tNil tNil) := by
  refine ⟨fun pins s σ H Q I hyp => wpAny_Call_Name_kw (ld_glob I hg hm ?_ hdb)⟩
  exact PySem.W.callWith_K0 I.kIn T.kC (run_err (ks := []) (ws := []) (zs := []) (us := []) (vs := []) T F1 hr kb I .nil .nil hyp.1 hyp.2)
end
end EA

set_option maxHeartbeats 4000000
namespace EB
open PySem PySem.Spec PyProof.Rows L2 E2 E3 E4 E5 E7 E8 E9
/-- isinstance(err, c) -/
def rIsErr (K : PySem.W.Frag) : List V → Hp → VK → Prop := fun xs H Q => ∃ (a C : Addr) (fs : List (Str × V)) (c : V) (u : Value) (b : Bool), xs = [.ref a, c] ∧ ErrAt H a C fs ∧ ExcC K C ∧ ClsV c u ∧ PySem.W.kitOne K (.ref C) u = some b ∧ Q (.bl b) H
theorem call_isErr {X : Cx} : CallR X (.builtin "isinstance") (rIsErr X.K) := by
  intro pins s σ H xs us Q I r hyp
  obtain ⟨a, C, fs, c, u, b, rfl, ea, T, cv, e, q⟩ := hyp
  cases r with
  | cons rx rr =>
    cases rr with
    | cons rt rr =>
      cases rr
      cases rx
      have ec := cv.eq rt
      subst ec
      have hcl : (PySem.W.clsIn X.K C).isSome = true := by
        obtain ⟨cd, hc, _⟩ := PySem.W.any_some T.hd
        rw [hc]
        rfl
      have fin : ∀ {ox : Obj} {od : Option Obj}, PySem.W.InstAt s.heap a ox C od → wpAny (model X.prog X.w) X.A (call (.builtin "isinstance") [.ref a, _]) (EP X pins σ Q) X.xe s := fun {ox od} J =>
        PySem.W.kia_one (PySem.W.kitx_exc hcl T.hg T.hk T.hs T.ha T.hn T.ht T.hm) I.kIn J e (fun z => nomatch z) fun tk => ⟨.bl b, H, I.kept (t' := tk) fun _ _ z => z, rfl, q⟩
      rcases ea with ⟨_, ea⟩ | ⟨dx, ea, ed⟩
      · obtain ⟨t1, at0⟩ := exo_at I.hok ea
        exact fin (ox := _) (od := none) ⟨at0, rfl, rfl, trivial⟩
      · obtain ⟨t1, at0⟩ := exo_at I.hok ea
        obtain ⟨mA, ⟨oD, es, ep, hoD, _⟩, _⟩ := exd_at I.hok ed
        exact fin (ox := _) (od := some oD) ⟨at0, rfl, rfl, hoD⟩
end EB

set_option maxHeartbeats 4000000
namespace EC
open PySem PySem.Spec PyProof.Rows L2 E2 E3 E4 E5 E7 E8 E9
/-- an error that was caught and is kept -/
def exk (a : Addr) (cls : Value) (d : Option Addr) : HO := .ext fun h => ∃ (oe : Obj) (vs : Array Value), h.get? a = some oe ∧ Zc cls d oe ∧ oe.data = .fields vs
theorem exk_ok {P : Program} {w : World} {H : Hp} {h : Heap} {a : Addr} {cls : Value} {d : Option Addr} {oe : Obj} {vs : Array Value} (e : h.get? a = some oe) (z : Zc cls d oe) (dt : oe.data = .fields vs) : ObjOk P w H h a (exk a cls d) :=
  ⟨⟨oe, vs, e, z, dt⟩, ⟨_, e⟩, fun h1 h2 ⟨o, v, q1, q2, q3⟩ k => ⟨o, v, k _ q1, q2, q3⟩⟩
theorem exk_at {P : Program} {w : World} {H : Hp} {h : Heap} {a : Addr} {cls : Value} {d : Option Addr} (hok : HOk P w H h) (e : H a = some (exk a cls d)) : ∃ (oe : Obj) (vs : Array Value), h.get? a = some oe ∧ Zc cls d oe ∧ oe.data = .fields vs := by
  have x : ObjOk P w H h a (.ext fun h => ∃ (oe : Obj) (vs : Array Value), h.get? a = some oe ∧ Zc cls d oe ∧ oe.data = .fields vs) := hok a _ e
  exact x.1
/-- a place that came new -/
structure Fresh (X : Cx) (pins : List (Addr × Obj)) (a : Addr) : Prop where
  n0 : X.s_0.heap.get? a = none
  nL : X.env.locals ≠ a
  nC : ∀ x c, X.env.cells.lookup x = some c → c ≠ a
  nP : ∀ p ∈ X.pn ++ pins, p.1 ≠ a
theorem fresh_of {X : Cx} {pins : List (Addr × Obj)} {σ : L2.St} {H : Hp} {s : Shared} {a : Addr} (I : Inv X pins σ H s) (ga : s.heap.get? a = none) (hx : X.ex = []) : Fresh X pins a := by
  refine ⟨?_, fun e => ?_, fun x c h e => ?_, fun p hp e => ?_⟩
  · cases q : X.s_0.heap.get? a with
    | none => rfl
    | some o =>
      obtain ⟨o', q'⟩ := I.base.there a o q (by rw [hx]; exact List.not_mem_nil)
      rw [ga] at q'
      cases q'
  · obtain ⟨m, ⟨o, es, ep, q, _⟩, _⟩ := I.loc
    rw [e, ga] at q
    cases q
  · obtain ⟨v, o, q, _⟩ := I.cell x c h
    rw [e, ga] at q
    cases q
  · have q := (I.pin p hp).1
    rw [e, ga] at q
    cases q
theorem retrack {X : Cx} {pins : List (Addr × Obj)} {σ : L2.St} {H : Hp} {s : Shared} {a : Addr} {o : HO} (F : Fresh X pins a) (I : Inv X pins σ H s) (na : H a = none) (ok : ObjOk X.prog X.w (upd H a o) s.heap a o) : Inv X pins σ (upd H a o) s := by
  have ne : ∀ {b : Addr} {u : HO}, H b = some u → b ≠ a := fun {b u} q => ne_of_none q na
  refine ⟨I.ok, I.os, I.bare, ?_, I.loc, I.cell, ?_, fun x c h => ?_, fun p hp => ?_, HOk.laidN I.hok (fun _ _ e => e) na ok, I.len⟩
  · exact { keep := I.base.keep, slot := I.base.slot,
            free := fun b u q n hx => by
              rw [upd_ne (fun e => by rw [e, F.n0] at q; cases q)]
              exact I.base.free b u q n hx
            there := I.base.there
            tups := fun b xs q => by
              have z := I.base.tups b xs q
              rw [upd_ne (ne z)]
              exact z
            frzs := fun b u v q => by
              have z := I.base.frzs b u v q
              rw [upd_ne (ne z)]
              exact z
            tbls := fun b ps q => by
              obtain ⟨m, z⟩ := I.base.tbls b ps q
              exact ⟨m, by rw [upd_ne (ne z)]; exact z⟩ }
  · rw [upd_ne F.nL]
    exact I.free
  · rw [upd_ne (F.nC x c h)]
    exact I.freeC x c h
  · obtain ⟨q1, q2, q3⟩ := I.pin p hp
    exact ⟨q1, by rw [upd_ne (F.nP p hp)]; exact q2, q3⟩
/-- except C as n: .., and the error is kept behind it -/
def wKept (K : PySem.W.Frag) (c : Value) (i : Nat) (ts : Addr → Value → Option Addr → TS) (Wout : WX) (D : Ends) : WX := fun cls d σ H =>
  ∃ b, PySem.W.exmOne K cls c = some b ∧ (b = true → ∀ a, H a = none → ts a cls d { nx := fun σ' H' => H' a = none ∧ D.nx (σ'.set i none) (upd H' a (exk a cls d)), rt := fun _ _ => False, bk := fun _ _ => False, ct := fun _ _ => False } (σ.set i (some (.ref a))) H) ∧
    (b = false → Wout cls d σ H)
section
variable {X : Cx} {x n : Str} {c : Value} {i : Nat} {body suite : List Stmt} {b0 : Stmt} {np pos pos' : Pos} {tb : WX → TS} {ts : Addr → Value → Option Addr → TS} {Wout : WX}
theorem ps_try_kept (hs : X.stack = X.env :: X.outer) (hf : X.env.frame = some X.env.locals) (hN : X.N.Nodup) (hi : X.N[i]? = some n) (hln : X.env.kindOf n = some .local) (hc : Names X x c) (hx : X.ex = [])
    (hb : ∀ (W : WX) (pn : List (Addr × Obj)) (xe : Value → Shared → Prop), Takes (X.tr pn xe) W → PassesOwn (model X.prog X.w) X.A X.env xe → PSs (X.tr pn xe) body (tb W))
    (hsu : ∀ (a : Addr) (oe : Obj) (cls : Value) (d : Option Addr) (pn : List (Addr × Obj)), Zc cls d oe → (∃ vs, oe.data = .fields vs) → PSs (X.suite a ((a, oe) :: pn)) (b0 :: suite) (ts a cls d)) :
    PS X (.Try body [.ExceptHandler (some (.Name x np)) (some n) (b0 :: suite) pos'] [] [] pos) (fun D σ H => tb (wKept X.K c i ts (fun _ _ _ _ => False) D) D σ H) := by
  refine ⟨fun pins s σ H D I hyp => ?_⟩
  have ok := I.ok
  have frm : X.A.frames = some (X.env :: X.outer) := by rw [ok.frames, hs]
  refine wpAny_Try_except ?_
  have run := hb (wKept X.K c i ts (fun _ _ _ _ => False) D) (X.pn ++ pins) (fun e s1 => wpAny (model X.prog X.w) X.A (noteFrame e X.env) (fun _ s2 => wpAny (model X.prog X.w) X.A (setFlight e none)
    (fun _ s3 => wpAny (model X.prog X.w) X.A (handleBy e X.env [.ExceptHandler (some (.Name x np)) (some n) (b0 :: suite) pos']) (SP X pins D) X.xe s3) X.xe s2) X.xe s1)
  refine wpAny_mono ((run (fun u s' xx => ?_) PassesOwn.looking).run [] s σ H D (I.toTry _) hyp) (fun fl s1 sp => ?_) (fun e s1 he => he)
  · obtain ⟨a, B, sI, pins', σ', H', cls, d, rfl, J', nb, up, sky, na, os, ag, b, hb1, yes, no⟩ := xx
    have J : Inv X pins σ' H' sI := J'.ofTry ok
    have sky2 : Sky B (X.env :: X.outer) a (Zc cls d) X.env.locals s'.heap := by rw [← hs]; exact sky
    show wpAny (model X.prog X.w) X.A (noteFrame (.ref a) X.env) _ _ _
    refine Sky.land Zc.steady frm hf sky2 fun h3 fl3 up3 => ?_
    have J3 : Inv X pins σ' H' { s' with heap := h3 } := J.landed nb fl3.1 (up.trans up3) os ag
    obtain ⟨oe3, vs3, at3, z3, d3⟩ := fl3.there
    have nfr : a ∉ frs (X.env :: X.outer) := fun hm => by
      obtain ⟨_, o', e', nf⟩ := fl3.2.2.1.mem hm
      rw [at3] at e'
      cases e'
      exact nf _ d3
    have gone : sI.heap.get? a = none := by
      cases q : sI.heap.get? a with
      | none => rfl
      | some o =>
        have z := nb a o q (by rw [show (frs X.stack) = frs (X.env :: X.outer) by rw [hs]]; exact nfr)
        rw [fl3.2.1] at z
        cases z
    have Fr := fresh_of J gone hx
    have nF : a ∉ X.fs := fun hm => by
      obtain ⟨e, he, q⟩ := List.mem_filterMap.mp hm
      exact nfr (List.mem_filterMap.mpr ⟨e, List.mem_cons_of_mem _ he, q⟩)
    have S3 := J3.suite at3 d3 na (fun e => Fr.nL e.symm) nF
    refine wpAny_handleBy_cons (codeAny_handlers_test ?_) (by intro q; cases q)
    have LT : PySem.W.Looks (model X.prog X.w) h3 (typeOf (.ref a)) cls := fun A Q E s k q => wpAny_typeOf_ref (k _ _ at3) (by rw [z3.1]; exact q)
    have LM := PySem.W.exm_one (M := model X.prog X.w) (J3.kIn) LT hb1
    have test : ∀ {Q : Value → Shared → Prop} {E : Value → Shared → Prop}, Q c { s' with heap := h3 } → wpAny (model X.prog X.w) (X.A.mark (some (.ref a))) (eval (.Name x np) X.env) Q E { s' with heap := h3 } := fun {Q E} q => by
      obtain ⟨hg, hdbg, hm | ⟨hm, hv, hnn⟩⟩ := hc
      · exact ld_glob (X := X.suite a ((a, oe3) :: (X.pn ++ pins))) S3 hg hm q hdbg
      · exact ld_blt (X := X.suite a ((a, oe3) :: (X.pn ++ pins))) S3 hg hm hv q hnn hdbg
    refine test (LM.here ?_)
    cases b with
    | false => exact (no rfl).elim
    | true =>
      refine codeAny_handlers_suite_as (HandSPX.lands_againZ fl3 fun h4 fl4 up4 => ?_)
      have J4 : Inv X pins σ' H' { s' with heap := h4 } := J.landed nb fl4.1 ((up.trans up3).trans up4) os ag
      obtain ⟨oe4, vs4, at4, z4, d4⟩ := fl4.there
      have S4 := J4.suite at4 d4 na (fun e => Fr.nL e.symm) nF
      refine store_ok (X := X.suite a ((a, oe4) :: (X.pn ++ pins))) (v := .ref a) S4 hN hi (.inl hln) rfl (fun s5 S5 => ?_) (.inr hln)
      refine wpAny_mono ((hsu a oe4 cls d (X.pn ++ pins) z4 ⟨_, d4⟩).run [] s5 _ H' _ S5 (yes rfl a na)) (fun fl s6 sp => ?_) (fun _ _ z => False.elim z)
      cases fl with
      | next =>
        obtain ⟨σ6, H6, S6, n6, q6⟩ := sp
        have at6 := (S6.pin (a, oe4) (List.mem_append_left _ List.mem_cons_self)).1
        have J6 := retrack (o := exk a cls d) Fr (S6.unsuite ok) n6 (exk_ok at6 z4 d4)
        exact gone_ok J6 hN hi hln fun s7 J7 => ⟨_, _, J7, q6⟩
      | brk =>
        obtain ⟨_, _, _, q⟩ := sp
        exact q.elim
      | cont =>
        obtain ⟨_, _, _, q⟩ := sp
        exact q.elim
      | ret u =>
        obtain ⟨_, _, _, _, _, q⟩ := sp
        exact q.elim
  · cases fl with
    | next =>
      obtain ⟨σ', H', J', q⟩ := sp
      exact wpAny_execs_nil ⟨σ', H', J'.ofTry ok, q⟩
    | brk =>
      obtain ⟨σ', H', J', q⟩ := sp
      exact ⟨σ', H', J'.ofTry ok, q⟩
    | cont =>
      obtain ⟨σ', H', J', q⟩ := sp
      exact ⟨σ', H', J'.ofTry ok, q⟩
    | ret u =>
      obtain ⟨v, σ', H', J', r, q⟩ := sp
      exact ⟨v, σ', H', J'.ofTry ok, r, q⟩
end
/-- kept.f -/
def tKeptF (K : PySem.W.Frag) (f : Str) (te : TE) : TE := fun σ H Q => te σ H fun x H1 => ∃ (a C d : Addr) (fs : List (Str × V)) (v : V), x = .ref a ∧ ExcC K C ∧ PySem.W.findIn K (.ref C) f = some none ∧ H1 a = some (exk a (.ref C) (some d)) ∧ H1 d = some (.xd fs) ∧ fs.lookup f = some v ∧ Q v H1
theorem pe_keptF {X : Cx} {e : Expr} {te : TE} {pos : Pos} {n : Str} (he : PE X e te) (hb : attributeBase e n X.env (eval e X.env) = eval e X.env := by rfl) : PE X (.Attribute e n pos) (tKeptF X.K n te) := by
  refine ⟨fun pins s σ H Q I hyp => attr_of hb (thn (he.run pins s σ H _ I hyp) fun u s1 hh => ?_)⟩
  obtain ⟨x, H1, I1, rx, a, C, d, fs, v, ex, T, no, ea, ed, l, q⟩ := hh
  subst ex
  obtain rfl : u = Value.ref a := rx
  obtain ⟨oe, vs, at0, z0, dt⟩ := exk_at I1.hok ea
  obtain ⟨mA, nsD, rel⟩ := (show ObjOk X.prog X.w H1 s1.heap d (.xd fs) from I1.hok d _ ed)
  obtain ⟨od, ho, hl⟩ := lookIn_ns nsD
  obtain ⟨u, hu, ru⟩ := RelO.some_of (v := v) (o := mA n) (by rw [← l]; exact rel n)
  have J : PySem.W.InstAt s1.heap a oe C (some od) := ⟨at0, z0.1, by unfold PySem.W.notCls; rw [dt] <;> rfl, by rw [z0.2]; exact ho⟩
  exact HandSPX.exc_get I1.kIn J T.hg T.hk T.hs (PySem.W.findObj_own T.hd no rfl (by rw [hl, hu])) (handed_of ru) ⟨v, H1, I1.tok _, ru, q⟩
end EC

set_option maxHeartbeats 4000000
/-! own errors as any law needs them: found, made, raised, caught -/
namespace EE
open PySem PySem.Spec PyProof.Rows L2 G3 G5 E2 E3 E4 E5 E7 E8 E9 EB EC
def initOf (s : Stmt) : Stmt := match s with
  | .ClassDef _ _ _ b _ _ _ _ _ _ _ => b.getD 0 (.Pass ⟨0, 0, 0, 0⟩)
  | s => s
/-- all that can be asked of the class by looking -/
def lookC (K : PySem.W.Frag) (C fI : Addr) (B newId initId : String) (bmB : List Value) (fn : List Str) : Bool :=
  PySem.W.excInitIn K C bmB newId && (PySem.W.excOver K C bmB && (PySem.W.hasDictIn K C && (decide (PySem.W.findIn K (.ref C) "__setattr__" = some (some (.builtin "object.__setattr__"))) && (decide (PySem.W.findIn K (.ref C) "__init__" = some (some (.ref fI))) &&
  (PySem.W.isFn K (.ref fI) && (decide (PySem.W.ks_superIn K C C "__init__" = some (some (.builtin initId))) && (decide (PySem.W.subIn K (.ref C) (.type B) = some true) && (decide (PySem.W.subIn K (.ref C) (.ref C) = some true) && (decide (PySem.W.nsIn K cStatics "thirdparty.any" = some none) &&
  (decide (PySem.W.subIn K (.ref C) (.type "BaseException") = some true) && (decide (PySem.W.typeIn K (.ref C) = some (.type "type")) && (PySem.W.keepIn K (.ref C) && (decide (PySem.W.findIn K (.ref C) "__getattribute__" = some (some (.builtin "BaseException.__getattribute__"))) &&
  (decide (PySem.W.findIn K (.ref C) "__getattr__" = some none) && (decide (PySem.W.findIn K (.ref C) "__class__" = some (some (.builtin "object.__class__"))) && (decide (PySem.W.specialIn K (.builtin "object.__class__") "__get__" = some (some (.builtin "getset_descriptor.__get__"))) &&
  (decide (PySem.W.takesIn K (.builtin "object.__class__") = some true) && (decide (PySem.W.mroIn K C (.type "object") = some true) && fn.all fun f => decide (PySem.W.takerIn K C f = some none) && decide (PySem.W.findIn K (.ref C) f = some none)))))))))))))))))))
theorem looked {K : PySem.W.Frag} {C fI : Addr} {B newId initId Bs : String} {bmB : List Value} {fn : List Str} (U : Under B newId initId Bs bmB) (h : lookC K C fI Bs newId initId bmB fn = true) :
    ExC K C fI B newId initId Bs bmB ∧ ExcC K C ∧ ∀ f ∈ fn, PySem.W.takerIn K C f = some none ∧ PySem.W.findIn K (.ref C) f = some none := by
  unfold lookC at h
  simp only [Bool.and_eq_true, decide_eq_true_eq, List.all_eq_true] at h
  obtain ⟨h1, h2, h3, h4, h5, h6, h7, h8, h9, h10, h11, h12, h13, h14, h15, h16, h17, h18, h19, h20⟩ := h
  obtain ⟨cd, hc, hd⟩ := PySem.W.any_some h3
  exact ⟨⟨U, h1, h2, ⟨cd, hc, hd⟩, h4, h5, h6, h7, h8, h9, h10, h11, h12, h13⟩, ⟨h14, h15, h11, h3, h16, h17, h18, h19⟩, h20⟩
/-- by place; by names, the last first -/
def kwG {α : Type} (k : Nat) (us ws : List α) : List α := match us with
  | [a] => a :: (ws.take k).reverse
  | _ => []
/-- an own error class that the law may make -/
structure Err (P : Program) (w : World) (K : PySem.W.Frag) (mg : Str → Option Value) (base : Heap) (nm : Str) (fn : List Str) where
  C : Addr
  fI : Addr
  fd : FuncData
  B : String
  newId : String
  initId : String
  Bs : String
  bmB : List Value
  g : mg nm = some (.ref C)
  T : ExC K C fI B newId initId Bs bmB
  E : ExcC K C
  ok : FnOk P w K mg base CX0 1 fI fd ("self" :: fn) (spI C fn)
  fld : ∀ f ∈ fn, PySem.W.findIn K (.ref C) f = some none
  kb : KBinds K fd ("self" :: fn) [] (fun us _ => us) (fun vs _ => vs)
  kn : KBinds K fd ("self" :: fn) fn.reverse (kwG fn.length) (kwG fn.length)
theorem vals_rev : ∀ {vs : List V} {us : List Value}, Vals vs us → Vals vs.reverse us.reverse
  | _, _, .nil => .nil
  | _, _, .cons r t => by
    rw [List.reverse_cons, List.reverse_cons]
    exact (vals_rev t).append (.cons r .nil)
theorem kw_rel {k : Nat} {vs zs : List V} {us ws : List Value} (r : Vals vs us) (rz : Vals zs ws) : Vals (kwG k vs zs) (kwG k us ws) := by
  match vs, us, r with
  | _, _, .nil => exact .nil
  | _, _, .cons r1 .nil => exact .cons r1 (vals_rev (rz.take k))
  | _, _, .cons r1 (.cons r2 r3) => exact .nil
theorem uValue : Under "ValueError" "ValueError.__new__" "ValueError.__init__" "ValueError" [.type "ValueError", .type "Exception", .type "BaseException", .type "object"] :=
  ⟨⟨_, _, F.excBase_ValueError⟩, InitF.of F.excBase_ValueError.toExcCallFacts, PySem.W.kxs_ValueError, F.store_ValueError, by decide +kernel, by decide +kernel, by decide +kernel⟩
theorem uIndex : Under "IndexError" "IndexError.__new__" "IndexError.__init__" "IndexError" [.type "IndexError", .type "LookupError", .type "Exception", .type "BaseException", .type "object"] :=
  ⟨⟨_, _, F.excBase_IndexError⟩, InitF.of F.excBase_IndexError.toExcCallFacts, PySem.W.kxs_IndexError, PySem.F.store_IndexError, by decide +kernel, by decide +kernel, by decide +kernel⟩
theorem uOver : Under "OverflowError" "OverflowError.__new__" "OverflowError.__init__" "OverflowError" [.type "OverflowError", .type "ArithmeticError", .type "Exception", .type "BaseException", .type "object"] :=
  ⟨⟨_, _, F.excBase_OverflowError⟩, InitF.of F.excBase_OverflowError.toExcCallFacts, PySem.W.kxs_OverflowError, PySem.F.store_OverflowError, by decide +kernel, by decide +kernel, by decide +kernel⟩
theorem uRun : Under "RuntimeError" "RuntimeError.__new__" "RuntimeError.__init__" "RuntimeError" [.type "RuntimeError", .type "Exception", .type "BaseException", .type "object"] :=
  ⟨⟨_, _, F.excBase_RuntimeError⟩, InitF.of F.excBase_RuntimeError.toExcCallFacts, PySem.W.kxs_RuntimeError, PySem.F.store_RuntimeError, by decide +kernel, by decide +kernel, by decide +kernel⟩
abbrev keyTail : List Value := [.type "KeyError", .type "LookupError", .type "Exception", .type "BaseException", .type "object"]
theorem key_store : StoreFacts "KeyError" keyTail "object.__setattr__" "object" := by
  refine { mro := by kernel_rfl, slot := ?_, entry := PySem.F.entry_object_sa, kind := by decide +kernel, split := by decide +kernel, hasOwner := by decide +kernel, args := fun a b c => by unfold argsOk; kernel_rfl, passes := fun self => by kernel_rfl }
  refine Slot.of (owner := "object") (n := "__setattr__") ?_ (by decide +kernel) (by decide +kernel) (by decide +kernel) ?_ ?_
  · rw [typeLookup_type, builtinLookup_eq_fast]
    kernel_rfl
  · first | exact .inl (by decide +kernel) | exact .inr (by decide +kernel)
  · rw [isSubtype_type]
    kernel_rfl
theorem key_get : PySem.W.KxsFacts "KeyError" "KeyError.__init__" := by
  refine ⟨?_, ?_⟩
  · show builtinType _ = _
    rw [builtinType_eq_fast]
    kernel_rfl
  · first | kernel_rfl | rfl
theorem uKey : Under "LookupError" "LookupError.__new__" "KeyError.__init__" "KeyError" keyTail :=
  ⟨⟨_, _, F.excBase_LookupError⟩, ⟨excClass_KeyError.initKind, excClass_KeyError.initSig, excClass_KeyError.notStar, excClass_KeyError.init.plain, excClass_KeyError.initEntry⟩, key_get, key_store, by decide +kernel, by decide +kernel, by decide +kernel⟩
theorem nmOk {x : Str} (h : ((x == ("__debug__" : Str)) || (x == ("__classdict__" : Str))) = false) : Nm x := by
  rw [Bool.or_eq_false_iff] at h
  exact ⟨h.1, h.2⟩
/-- a new error that is raised -/
def tNewR (C : Addr) (fn : List Str) (ta : TA) : L2.St → Hp → XK → Prop := fun σ H Q => ta σ H fun vs H1 => vs.length ≤ 1000 ∧ vs.length = fn.length ∧ names fn vs ≠ [] ∧ ∀ d H', H1 d = none → Same H1 H' → H' d = some (.xd (names fn vs)) → Q (.ref C) (some d) H'
theorem pmk_new {X : Cx} {nm : Str} {fn : List Str} {p pos : Pos} {e : Expr} {es : List Expr} {ta : TA} (S : Err X.prog X.w X.K X.mg X.base nm fn) (hr : Room 2 X.A) (hg : Gl X nm) (ha : PA X (e :: es) ta)
    (hdb : (nm == ("__debug__" : Str)) = false := by decide) (he : starEach (e :: es) X.env = (false, eval e X.env) :: starEach es X.env := by rfl) (hpl : (backTo pos (starEach es X.env)).any (·.1) = false := by rfl) :
    PMk X (.Call (.Name nm p) (e :: es) [] pos) (tNewR S.C fn ta) := by
  intro pins s σ H Q I hyp
  refine wpAny_Call_Name_kw (ld_glob I hg S.g ?_ hdb)
  refine PySem.W.callWith_K (h₀ := X.base) I.ok.mod.kin S.T.kC (thn (ha.run pos pins s σ H _ I hyp) fun us s1 ⟨vs, H1, I1, r1, few, hl, hne, q1⟩ => ⟨I1.kIn, ?_⟩) he hpl
  refine EA.run_mk S.T S.ok hr S.kb I1 r1 few fun a na => ⟨a, vs, rfl, hl, upd_same, fun H2 gr en => ⟨rfl, .inl ?_⟩⟩
  rcases en with ⟨z, _⟩ | ⟨dx, ea, ed, nd⟩
  · exact (hne z).elim
  · have ne : dx ≠ a := fun e => by
      rw [e, upd_same] at nd
      cases nd
    have nd1 : H1 dx = none := by
      rw [upd_ne ne] at nd
      exact nd
    refine ⟨dx, _, ea, ed, nd1, q1 dx _ nd1 (fun b o hb => ?_) upd_same⟩
    have nba := ne_of_none hb na
    rw [upd_ne (ne_of_none hb nd1), del_ne nba]
    exact gr b o (by rw [upd_ne nba]; exact hb) nba
theorem ps_raiseN {X : Cx} {nm : Str} {fn : List Str} {p pos pos' : Pos} {e : Expr} {es : List Expr} {ta : TA} {W : WX} (hc : X.calm = true) (tk : Takes X W) (S : Err X.prog X.w X.K X.mg X.base nm fn) (hr : Room 2 X.A) (hg : Gl X nm) (ha : PA X (e :: es) ta)
    (hdb : (nm == ("__debug__" : Str)) = false := by decide) (he : starEach (e :: es) X.env = (false, eval e X.env) :: starEach es X.env := by rfl) (hpl : (backTo pos (starEach es X.env)).any (·.1) = false := by rfl) :
    PS X (.Raise (some (.Call (.Name nm p) (e :: es) [] pos)) none pos') (fun _ σ H => tNewR S.C fn ta σ H fun cls d H' => W cls d σ H') := ps_raise hc tk (pmk_new S hr hg ha hdb he hpl)
/-- e.f in the suite that caught it -/
def tByE (C : Addr) (a : Addr) (cls : Value) (d : Option Addr) (f : Str) (te : TE) : TE := fun σ H Q => te σ H fun x H1 => x = .ref a ∧ cls = .ref C ∧ ∃ (dd : Addr) (fs : List (Str × V)) (v : V), d = some dd ∧ H1 dd = some (.xd fs) ∧ fs.lookup f = some v ∧ Q v H1
theorem pe_byE {X : Cx} {C a : Addr} {oe : Obj} {cls : Value} {d : Option Addr} {pn : List (Addr × Obj)} {e : Expr} {te : TE} {pos : Pos} {f : Str} (T : ExcC X.K C) (no : PySem.W.findIn X.K (.ref C) f = some none) (hz : Zc cls d oe) (hf : ∃ vs, oe.data = .fields vs) (he : PE (X.suite a ((a, oe) :: pn)) e te)
    (hb : attributeBase e f X.env (eval e X.env) = eval e X.env := by rfl) :
    PE (X.suite a ((a, oe) :: pn)) (.Attribute e f pos) (tByE C a cls d f te) := by
  refine ⟨fun pins s σ H Q I h => ?_⟩
  refine attr_of hb (thn (he.run pins s σ H _ I h) fun u s1 hh => ?_)
  obtain ⟨x, H1, I1, rx, ex, ec, dd, fs, v, ed, ea, l, q⟩ := hh
  subst ex
  obtain rfl : u = Value.ref a := rx
  subst ec
  subst ed
  obtain ⟨ha, _⟩ := I1.pin (a, oe) (List.mem_append_left _ List.mem_cons_self)
  obtain ⟨vs, hd⟩ := hf
  have hx : ObjOk X.prog X.w H1 s1.heap dd (.xd fs) := I1.hok dd _ ea
  obtain ⟨mA, hns, hr⟩ := hx
  obtain ⟨od, ho, hl⟩ := lookIn_ns hns
  obtain ⟨u, hu, ru⟩ := RelO.some_of (v := v) (o := mA f) (by rw [← l]; exact hr f)
  have J : PySem.W.InstAt s1.heap a oe C (some od) := ⟨ha, hz.1, by unfold PySem.W.notCls; rw [hd] <;> rfl, by rw [hz.2]; exact ho⟩
  exact HandSPX.exc_get I1.kIn J T.hg T.hk T.hs (PySem.W.findObj_own T.hd no rfl (by rw [hl, hu])) (handed_of ru) ⟨v, H1, I1.tok _, ru, q⟩
/-- a def where the top has put it -/
def At (K : PySem.W.Frag) (x : Str) (st : Stmt) (f : Addr) : Prop :=
  PySem.W.nsIn K mainGlobals x = some (some (.ref f)) ∧ ∃ (od an : Option Addr) (sl : Array (Option Value)) (oc kV dc pm cd ct : Value),
    K.lookup f = some ⟨oc, od, .func (PySem.W.fnOf x x (defArgs st) (defBody st) (defScope st) .none kV dc pm an cd ct), sl⟩ ∧ PySem.W.codeIn K cd x = true ∧ PySem.W.keepIn K (.ref f) = true
theorem at_mk {K : PySem.W.Frag} {x : Str} {st : Stmt} {f : Addr} {od an : Option Addr} {sl : Array (Option Value)} {oc kV dc pm cd ct : Value} (a : PySem.W.nsIn K mainGlobals x = some (some (.ref f)))
    (l : K.lookup f = some ⟨oc, od, .func (PySem.W.fnOf x x (defArgs st) (defBody st) (defScope st) .none kV dc pm an cd ct), sl⟩) (c : PySem.W.codeIn K cd x = true) (k : PySem.W.keepIn K (.ref f) = true) : At K x st f := ⟨a, od, an, sl, oc, kV, dc, pm, cd, ct, l, c, k⟩
theorem At.fn {K : PySem.W.Frag} {x : Str} {st : Stmt} {f : Addr} (h : At K x st f) : ∃ fd, Fun K x x st f fd := by
  obtain ⟨_, od, an, sl, oc, kV, dc, pm, cd, ct, l, c, k⟩ := h
  exact ⟨_, fun_mk l c k⟩
/-- a class where the top has put it -/
def CAt (P : Program) (K : PySem.W.Frag) (nm ql : Str) (st : Stmt) (B newId initId : String) (bmB : List Value) (fn : List Str) (C fI : Addr) : Prop :=
  PySem.W.nsIn K mainGlobals nm = some (some (.ref C)) ∧ lookC K C fI B newId initId bmB fn = true ∧ ∃ fd, InitFn P K C fI ql (defArgs st) (defBody st) (defScope st) fd
theorem cat_mk {P : Program} {K : PySem.W.Frag} {nm ql : Str} {st : Stmt} {B newId initId : String} {bmB : List Value} {fn : List Str} {C fI cl cc : Addr} {od an od2 od3 : Option Addr} {sl sl2 sl3 : Array (Option Value)} {oc kV dc pm ct oc2 oc3 : Value} {fv : Array Value} {file : Str} {tf : Tok}
    (a : PySem.W.nsIn K mainGlobals nm = some (some (.ref C))) (i : PySem.W.findIn K (.ref C) "__init__" = some (some (.ref fI)))
    (l : K.lookup fI = some ⟨oc, od, .func (fnCl "__init__" ql (defArgs st) (defBody st) (defScope st) kV dc pm an (.ref cc) ct cl), sl⟩) (c : PySem.W.codeIn K (.ref cc) ql = true)
    (m : K.lookup cl = some ⟨oc2, od2, .cell (some (.ref C)), sl2⟩) (n : K.lookup cc = some ⟨oc3, od3, .fields fv, sl3⟩) (o : fv[2]? = some (.str file tf)) (p : ((P.main.file : Str) == file) = true) (top : (P.main.scope.names.lookup ("super" : Str)).isSome = false)
    (q : lookC K C fI B newId initId bmB fn = true) : CAt P K nm ql st B newId initId bmB fn C fI :=
  ⟨a, q, _, ⟨oc, kV, dc, pm, .ref cc, ct, od, an, sl, cl, cc, _, _, fv, file, tf, rfl, l, c, m, rfl, rfl, n, rfl, o, p⟩, top⟩
end EE

set_option maxHeartbeats 4000000
/-! comprehensions over anything whose items are known: each item turned, some left out -/
namespace LC
open PySem PySem.Spec PyProof.Rows L2 G3
theorem small_line {n : Nat} (h : n ≤ 1000000) : n < sizeLine := Nat.lt_of_le_of_lt h (by decide)
section
variable {J : It} {G : Hp → Prop} {xs : List V} {g : TG} {tt : TT} {te : TE} {vs : List Nat} {σ : L2.St} {H1 : Hp} {D : Addr} {Qd : Hp → Prop}
theorem lc_map (w : Walk J xs.length G (YAt xs)) (hG : ∀ H, Same H1 H → G H) (len : xs.length ≤ 100000) (nD : H1 D = none) (f : V → V)
    (turn : ∀ x H (R : V → Hp → Prop), x ∈ xs → Same H1 H → (∀ H', Same H H' → R (f x) H') → g x (wipe σ vs) H fun σ2 H2 => wipe σ2 vs = wipe σ vs ∧ te σ2 H2 R)
    (fin : ∀ H', Same H1 H' → H' D = some (.lst (xs.map f)) → Qd H') :
    ∃ W : Nat → Nat → Hp → Prop, (∃ m, W 0 m (upd H1 D (.lst []))) ∧ ∀ i m H, W i m H →
      (J.stop i H ∧ Qd H) ∨ (J.go i H ∧ ∃ Nx : Hp → Prop, (∀ H', Nx H' → ∃ m', m' < m ∧ W (i + 1) m' H') ∧ ∀ x H', J.yld i H x H' → g x (wipe σ vs) H' fun σ2 H2 => wipe σ2 vs = wipe σ vs ∧ tYes σ2 H2 fun b H3 =>
        if b = true then te σ2 H3 fun y H4 => ∃ acc, H4 D = some (.lst acc) ∧ acc.length < sizeLine ∧ Nx (upd H4 D (.lst (acc ++ [y]))) else Nx H3) := by
  refine lc_it w (fun i H => Same H1 H ∧ H D = some (.lst ((xs.take i).map f))) ⟨same_new nD, upd_same⟩ (fun i H _ h => hG H h.1) (fun i x H H' hi h y => ?_) (fun H h => fin H h.1 ?_)
  · obtain ⟨rfl, ex⟩ := y
    have t := turn x H' (fun y H4 => ∃ acc, H4 D = some (.lst acc) ∧ acc.length < sizeLine ∧ (Same H1 (upd H4 D (.lst (acc ++ [y]))) ∧ (upd H4 D (.lst (acc ++ [y]))) D = some (.lst ((xs.take (i + 1)).map f)))) (List.mem_of_getElem? ex) h.1 (fun H5 s => ?_)
    · dsimp only [tYes]
      simp only [if_true]
      exact t
    · refine ⟨_, s _ _ h.2, ?_, same_put (h.1.trans s) nD, ?_⟩
      · rw [List.length_map, List.length_take]
        exact small_line (by omega)
      · rw [upd_same, List.take_succ, ex]
        simp
  · have e : xs.take xs.length = xs := List.take_length
    rw [e] at h
    exact h.2
theorem lc_sift (w : Walk J xs.length G (YAt xs)) (hG : ∀ H, Same H1 H → G H) (len : xs.length ≤ 100000) (nD : H1 D = none) (p : V → Bool)
    (turn : ∀ x H (R : L2.St → Bool → Hp → Prop), x ∈ xs → Same H1 H → (∀ σ2 H', Same H H' → (∀ Q' : VK, Q' x H' → te σ2 H' Q') → R σ2 (p x) H') → g x (wipe σ vs) H fun σ2 H2 => wipe σ2 vs = wipe σ vs ∧ tt σ2 H2 (R σ2))
    (fin : ∀ H', Same H1 H' → H' D = some (.lst (xs.filter p)) → Qd H') :
    ∃ W : Nat → Nat → Hp → Prop, (∃ m, W 0 m (upd H1 D (.lst []))) ∧ ∀ i m H, W i m H →
      (J.stop i H ∧ Qd H) ∨ (J.go i H ∧ ∃ Nx : Hp → Prop, (∀ H', Nx H' → ∃ m', m' < m ∧ W (i + 1) m' H') ∧ ∀ x H', J.yld i H x H' → g x (wipe σ vs) H' fun σ2 H2 => wipe σ2 vs = wipe σ vs ∧ tt σ2 H2 fun b H3 =>
        if b = true then te σ2 H3 fun y H4 => ∃ acc, H4 D = some (.lst acc) ∧ acc.length < sizeLine ∧ Nx (upd H4 D (.lst (acc ++ [y]))) else Nx H3) := by
  refine lc_it w (fun i H => Same H1 H ∧ H D = some (.lst ((xs.take i).filter p))) ⟨same_new nD, upd_same⟩ (fun i H _ h => hG H h.1) (fun i x H H' hi h y => ?_) (fun H h => fin H h.1 ?_)
  · obtain ⟨rfl, ex⟩ := y
    have tk : xs.take (i + 1) = xs.take i ++ [x] := by rw [List.take_succ, ex]; rfl
    refine turn x H' (fun σ2 b H3 => if b = true then te σ2 H3 fun y H4 => ∃ acc, H4 D = some (.lst acc) ∧ acc.length < sizeLine ∧ (Same H1 (upd H4 D (.lst (acc ++ [y]))) ∧ (upd H4 D (.lst (acc ++ [y]))) D = some (.lst ((xs.take (i + 1)).filter p)))
      else Same H1 H3 ∧ H3 D = some (.lst ((xs.take (i + 1)).filter p))) (List.mem_of_getElem? ex) h.1 (fun σ2 H5 s t => ?_)
    refine ite2 (fun e1 => ?_) (fun e1 => ?_)
    · refine t _ ⟨_, s _ _ h.2, ?_, same_put (h.1.trans s) nD, ?_⟩
      · have z := List.length_filter_le p (xs.take i)
        rw [List.length_take] at z
        exact small_line (by omega)
      · rw [upd_same, tk, List.filter_append, List.filter_cons_of_pos (p := p) e1]
        rfl
    · refine ⟨h.1.trans s, ?_⟩
      rw [tk, List.filter_append, List.filter_cons_of_neg (p := p) e1, List.filter_nil, List.append_nil]
      exact s _ _ h.2
  · have e : xs.take xs.length = xs := List.take_length
    rw [e] at h
    exact h.2
end
/-- the signs of a text -/
def sgn (z : Str) : List V := z.cps.toList.map fun c => V.str ⟨#[c]⟩
theorem walk_sgn (z : Str) : Walk (Its z) (sgn z).length (fun _ => True) (YAt (sgn z)) := by
  have e : (sgn z).length = z.cps.size := by
    unfold sgn
    rw [List.length_map, Array.length_toList]
  rw [e]
  refine (walk_str (z := z)).mono (fun _ h => h) fun i H x H' hi _ y => ?_
  obtain ⟨e1, c, hc, rfl⟩ := y
  refine ⟨e1, ?_⟩
  unfold sgn
  rw [List.getElem?_map, Array.getElem?_toList, hc]
  rfl
end LC

set_option maxHeartbeats 4000000
namespace K50
open PySem PySem.Spec PyProof.Rows L2 TL
/-! ### the mathematics: words, numbers, rows -/
abbrev Tn := Int × List V
def isd (c : Nat) : Bool := decide (48 ≤ c) && decide (c ≤ 57)
/-- figures without a nought ahead, one to four -/
def fig (l : List Nat) : Bool := l.all isd && (decide (1 ≤ l.length) && (decide (l.length ≤ 4) && (decide (l = [48]) || !decide (l.head? = some 48))))
/-- the last sign is a colon -/
def lastC (l : List Nat) : Bool := decide (l.drop (l.length - 1) = [58])
def num (l : List Nat) : Int := ((NumText.digitsVal l : Nat) : Int)
def dash (w : Str) : Bool := decide (w = "-")
/-- words of a turn's row -/
def okWs : List Str → Bool
  | h :: r :: rest => lastC (tl h) && (fig (tl h).dropLast && (r :: rest).all fun w => dash w || fig (tl w))
  | _ => false
def chOf (w : Str) : V := if dash w = true then .non else .int (num (tl w))
def turnW : List Str → Tn
  | h :: r => (num (tl h).dropLast, r.map chOf)
  | [] => (0, [])
def ws (row : Str) : List Str := Txt.split row " "
def rowOk (row : Str) : Bool := okWs (ws row)
def turnOf (row : Str) : Tn := turnW (ws row)
def rowsOf (t : Str) : List Str := if t = "" then [] else Txt.split t "\n"
theorem tl_dash : tl ("-" : Str) = [45] := by decide +kernel
theorem tl_colon : tl (":" : Str) = [58] := by decide +kernel
theorem tl_sp : tl (" " : Str) = [32] := by decide +kernel
theorem tl_nl : tl ("\n" : Str) = [10] := by decide +kernel
theorem tl_zero : tl ("0" : Str) = [48] := by decide +kernel
theorem tl_empty : tl ("" : Str) = [] := by decide +kernel
theorem eq_tl {x y : Str} : x = y ↔ tl x = tl y := ⟨fun h => by rw [h], ext_tl⟩
theorem isd_dig : ∀ c, c < 128 → Unicode.isDigit c = isd c := by decide +kernel
theorem cps_all (w : Str) (p : Nat → Bool) : w.cps.all p = (tl w).all p := by
  show w.cps.all p = w.cps.toList.all p
  rw [Array.all_toList]
theorem ascii_dig (w : Str) : (Txt.isascii w && Txt.isdigit w) = ((tl w).all isd && decide (1 ≤ (tl w).length)) := by
  have h : ((tl w).all (fun c => decide (c < 128)) && (tl w).all Unicode.isDigit) = (tl w).all isd := by
    generalize tl w = l
    induction l with
    | nil => rfl
    | cons c r ih =>
      simp only [List.all_cons]
      rw [← ih]
      by_cases hc : c < 128
      · rw [isd_dig c hc, decide_eq_true hc]
        cases isd c <;> cases (r.all fun c => decide (c < 128)) <;> cases r.all Unicode.isDigit <;> rfl
      · have e : isd c = false := by
          unfold isd
          rw [decide_eq_false (show ¬ c ≤ 57 by omega), Bool.and_false]
        rw [e, decide_eq_false hc]
        simp
  have e1 : Txt.isascii w = (tl w).all (fun c => decide (c < 128)) := cps_all w _
  have e2 : Txt.isdigit w = (decide (1 ≤ (tl w).length) && (tl w).all Unicode.isDigit) := by
    show (decide (w.length > 0) && w.cps.all Unicode.isDigit) = _
    rw [cps_all, len_tl]
    rfl
  rw [e1, e2, ← h]
  cases (tl w).all (fun c => decide (c < 128)) <;> cases (tl w).all Unicode.isDigit <;> cases decide (1 ≤ (tl w).length) <;> rfl
theorem fig_no1 {w : Str} (h : Txt.isascii w = false ∨ Txt.isdigit w = false) : fig (tl w) = false := by
  have e : (Txt.isascii w && Txt.isdigit w) = false := by
    rcases h with h | h <;> rw [h]
    · rfl
    · exact Bool.and_false _
  rw [ascii_dig] at e
  unfold fig
  revert e
  cases (tl w).all isd <;> cases decide (1 ≤ (tl w).length) <;> simp
theorem fig_no2 {l : List Nat} (h : ¬ l.length ≤ 4) : fig l = false := by
  unfold fig
  rw [decide_eq_false h]
  simp
theorem fig_yes {w : Str} (h1 : Txt.isascii w = true) (h2 : Txt.isdigit w = true) (h3 : (tl w).length ≤ 4) : fig (tl w) = (decide (tl w = [48]) || !decide ((tl w).head? = some 48)) ∧ tl w ≠ [] := by
  have e := ascii_dig w
  rw [h1, h2] at e
  have e' := e.symm
  simp only [Bool.and_self, Bool.and_eq_true] at e'
  refine ⟨?_, fun z => ?_⟩
  · unfold fig
    rw [e'.1, e'.2, decide_eq_true h3]
    rfl
  · have := of_decide_eq_true e'.2
    rw [z] at this
    simp at this
theorem fig_law {l : List Nat} : fig l = (if (decide (1 ≤ l.length) && decide (l.length ≤ 4)) && l.all isd then (!decide (l.head? = some 48) || decide (l = [48])) else false) := by
  unfold fig
  cases l.all isd <;> cases decide (1 ≤ l.length) <;> cases decide (l.length ≤ 4) <;> cases decide (l = [48]) <;> cases decide (l.head? = some 48) <;> rfl
theorem fig_digits {l : List Nat} (h : fig l = true) : NumText.AllDigits l ∧ l ≠ [] ∧ l.length ≤ 4 := by
  unfold fig at h
  simp only [Bool.and_eq_true, decide_eq_true_eq, List.all_eq_true] at h
  obtain ⟨h1, h2, h3, _⟩ := h
  refine ⟨fun c hc => ?_, fun z => ?_, h3⟩
  · have := h1 c hc
    unfold isd at this
    simp only [Bool.and_eq_true, decide_eq_true_eq] at this
    exact this
  · rw [z] at h2
    simp at h2
theorem fig_int {l : List Nat} (h : fig l = true) : intText? ⟨l.toArray⟩ = some (num l) ∧ (⟨l.toArray⟩ : Str).length ≤ 640 := by
  obtain ⟨h1, h2, h3⟩ := fig_digits h
  have hl : (⟨l.toArray⟩ : Str).length = l.length := by rw [len_tl]
  exact ⟨intText_digits (x := ⟨l.toArray⟩) h1 h2 (by rw [hl]; omega), by rw [hl]; omega⟩
theorem digits_lt : ∀ (l : List Nat) (a : Nat), NumText.AllDigits l → l.foldl (fun acc c => acc * 10 + (c - 48)) a < (a + 1) * 10 ^ l.length
  | [], a, _ => by simp
  | c :: r, a, h => by
    have hc := h c (List.mem_cons_self ..)
    have ih := digits_lt r (a * 10 + (c - 48)) fun d hd => h d (List.mem_cons_of_mem _ hd)
    rw [List.foldl_cons, List.length_cons, Nat.pow_succ]
    refine Nat.lt_of_lt_of_le ih ?_
    rw [Nat.mul_comm (10 ^ r.length) 10, ← Nat.mul_assoc]
    exact Nat.mul_le_mul_right _ (by omega)
theorem num_lt {l : List Nat} (h : fig l = true) : 0 ≤ num l ∧ num l < 10000 := by
  obtain ⟨h1, h2, h3⟩ := fig_digits h
  have z := digits_lt l 0 h1
  have z2 : NumText.digitsVal l < 10 ^ l.length := by
    unfold NumText.digitsVal
    omega
  have z3 : 10 ^ l.length ≤ 10 ^ 4 := Nat.pow_le_pow_right (by decide) h3
  unfold num
  omega
/-! slices -/
theorem cut_last (z : Str) : cutS z (some (-1)) none = ⟨((tl z).drop ((tl z).length - 1)).toArray⟩ := by
  refine ext_tl ?_
  show ((tl z).drop (HT.sIx z.length 0 (some (-1)))).take (HT.sIx z.length z.length none - HT.sIx z.length 0 (some (-1))) = (tl z).drop ((tl z).length - 1)
  have e1 : HT.sIx z.length 0 (some (-1)) = (tl z).length - 1 := by
    show (if (-1 : Int) < 0 then ((-1 : Int) + (z.length : Int)).toNat else min (-1 : Int).toNat z.length) = _
    rw [if_pos (by decide), len_tl]
    omega
  rw [e1, show HT.sIx z.length z.length none = (tl z).length from len_tl z]
  exact List.take_of_length_le (by rw [List.length_drop]; omega)
theorem cut_but (z : Str) : cutS z none (some (-1)) = ⟨(tl z).dropLast.toArray⟩ := by
  refine ext_tl ?_
  show ((tl z).drop (HT.sIx z.length 0 none)).take (HT.sIx z.length z.length (some (-1)) - HT.sIx z.length 0 none) = (tl z).dropLast
  have e1 : HT.sIx z.length z.length (some (-1)) = (tl z).length - 1 := by
    show (if (-1 : Int) < 0 then ((-1 : Int) + (z.length : Int)).toNat else min (-1 : Int).toNat z.length) = _
    rw [if_pos (by decide), len_tl]
    omega
  rw [e1, show HT.sIx z.length 0 none = 0 from rfl, List.drop_zero, List.dropLast_eq_take]
  rfl
theorem last_colon (z : Str) : decide (cutS z (some (-1)) none = ":") = lastC (tl z) := by
  unfold lastC
  rw [cut_last, decide_eq_decide, eq_tl, tl_colon]
theorem ends_colon (z : Str) : Txt.endswith z ":" = lastC (tl z) := by
  show (decide (0 + (":" : Str).length ≤ z.length) && Builtin.Str.subAt z ":" (z.length - (":" : Str).length)) = _
  rw [StrLaws.subAt_eq, show (":" : Str).length = 1 from by rw [len_tl, tl_colon]; rfl]
  show (decide (0 + 1 ≤ z.length) && (((tl z).drop (z.length - 1)).take 1 == tl (":" : Str))) = _
  rw [tl_colon, len_tl]
  unfold lastC
  generalize tl z = l
  by_cases h : l = []
  · rw [h]
    rfl
  · have hp := List.length_pos_iff.mpr h
    rw [decide_eq_true (show 0 + 1 ≤ l.length by omega), Bool.true_and, List.take_of_length_le (by rw [List.length_drop]; omega)]
    by_cases e : l.drop (l.length - 1) = [58]
    · rw [e]
      rfl
    · rw [decide_eq_false e]
      exact beq_eq_false_iff_ne.mpr e
/-! ### sizes of parts -/
theorem spl_le (S : List Nat) : ∀ (l : List Nat) (k : Nat) (acc : List Nat), (spl S k acc l).length ≤ l.length + 1
  | [], k, acc => by rw [spl_nil]; simp
  | c :: r, 0, acc => by
    by_cases h : pre S (c :: r) = true
    · rw [spl_hit h]
      have := spl_le S r (S.length - 1) []
      simp only [List.length_cons]
      omega
    · rw [spl_miss (by simpa using h)]
      have := spl_le S r 0 (acc ++ [c])
      simp only [List.length_cons]
      omega
  | c :: r, k + 1, acc => by
    show (spl S k acc r).length ≤ _
    have := spl_le S r k acc
    simp only [List.length_cons]
    omega
theorem spl_part_le (S : List Nat) : ∀ (l : List Nat) (k : Nat) (acc : List Nat), ∀ p ∈ spl S k acc l, p.length ≤ acc.length + l.length
  | [], k, acc, p, hp => by
    rw [spl_nil] at hp
    rw [List.mem_singleton.mp hp]
    omega
  | c :: r, 0, acc, p, hp => by
    by_cases h : pre S (c :: r) = true
    · rw [spl_hit h] at hp
      rcases List.mem_cons.mp hp with rfl | hp
      · omega
      · have := spl_part_le S r (S.length - 1) [] p hp
        simp only [List.length_cons, List.length_nil] at *
        omega
    · rw [spl_miss (by simpa using h)] at hp
      have := spl_part_le S r 0 (acc ++ [c]) p hp
      simp only [List.length_cons, List.length_append, List.length_nil] at *
      omega
  | c :: r, k + 1, acc, p, hp => by
    have := spl_part_le S r k acc p hp
    simp only [List.length_cons]
    omega
theorem spl_ne (S : List Nat) : ∀ (l : List Nat) (k : Nat) (acc : List Nat), spl S k acc l ≠ []
  | [], k, acc => by rw [spl_nil]; simp
  | c :: r, 0, acc => by
    by_cases h : pre S (c :: r) = true
    · rw [spl_hit h]
      simp
    · rw [spl_miss (by simpa using h)]
      exact spl_ne S r 0 (acc ++ [c])
  | c :: r, k + 1, acc => spl_ne S r k acc
theorem sp_plain : (" " : Str).cps.all (· < 256) = true := by decide +kernel
theorem nl_plain : ("\n" : Str).cps.all (· < 256) = true := by decide +kernel
theorem split_sp (x : Str) : (Txt.split x " ").map tl = spl [32] 0 [] (tl x) := by
  have e := split_spl x " " (by rw [tl_sp]; simp) (kind_ok sp_plain)
  rw [tl_sp] at e
  exact e
theorem split_nl (x : Str) : (Txt.split x "\n").map tl = spl [10] 0 [] (tl x) := by
  have e := split_spl x "\n" (by rw [tl_nl]; simp) (kind_ok nl_plain)
  rw [tl_nl] at e
  exact e
theorem ws_len (row : Str) : (ws row).length ≤ row.length + 1 := by
  have e := congrArg List.length (split_sp row)
  rw [List.length_map] at e
  show (Txt.split row " ").length ≤ _
  rw [e, len_tl]
  exact spl_le _ _ _ _
theorem ws_part {row w : Str} (h : w ∈ ws row) : w.length ≤ row.length := by
  have hm : tl w ∈ (Txt.split row " ").map tl := List.mem_map_of_mem h
  rw [split_sp] at hm
  have := spl_part_le _ _ _ _ _ hm
  rw [len_tl, len_tl]
  simp only [List.length_nil] at this
  omega
theorem ws_ne (row : Str) : ws row ≠ [] := fun e => by
  have h := split_sp row
  rw [show Txt.split row " " = [] from e] at h
  exact spl_ne _ _ _ _ h.symm
theorem rows_len (t : Str) : (rowsOf t).length ≤ t.length + 1 := by
  unfold rowsOf
  split
  · simp
  · have e := congrArg List.length (split_nl t)
    rw [List.length_map] at e
    rw [e, len_tl]
    exact spl_le _ _ _ _
theorem rows_part {t row : Str} (h : row ∈ rowsOf t) : row.length ≤ t.length := by
  unfold rowsOf at h
  split at h
  · cases h
  · have hm : tl row ∈ (Txt.split t "\n").map tl := List.mem_map_of_mem h
    rw [split_nl] at hm
    have := spl_part_le _ _ _ _ _ hm
    rw [len_tl, len_tl]
    simp only [List.length_nil] at this
    omega
end K50

set_option maxHeartbeats 4000000
namespace K50
open PySem PySem.Spec PyProof.Rows L2 TL
/-! ### a run written -/
def wd : V → Str
  | .int i => Str.ofString (toString i)
  | _ => "-"
def okv (v : V) : Prop := v = .non ∨ ∃ n : Nat, v = .int n ∧ n < 10000
structure OkT (r : Tn) : Prop where
  hand : ∃ n : Nat, r.1 = n ∧ n < 10000
  ne : r.2 ≠ []
  all : ∀ v ∈ r.2, okv v
def headW (r : Tn) : Str := Str.ofString (toString r.1) ++ ":"
def wordsT (r : Tn) : List Str := headW r :: r.2.map wd
def rowT (r : Tn) : Str := Txt.join " " (wordsT r)
def runT (rs : List Tn) : Str := Txt.join "\n" (rs.map rowT)
theorem numL_head : ∀ n : Nat, 1 ≤ n → (numL n).head? ≠ some 48 := by
  intro n
  induction n using Nat.strongRecOn with
  | _ n ih =>
    intro h
    by_cases h1 : n < 10
    · rw [numL_lt h1]
      simp
      omega
    · rw [numL_step (by omega), List.head?_append]
      have e := ih (n / 10) (by omega) (by omega)
      cases q : (numL (n / 10)).head? with
      | none => exact absurd (List.head?_eq_none_iff.mp q) (numL_ne _)
      | some c =>
        rw [q] at e
        exact e
theorem numL_fig {n : Nat} (h : n < 10000) : fig (numL n) = true := by
  unfold fig
  simp only [Bool.and_eq_true, decide_eq_true_eq, List.all_eq_true, Bool.or_eq_true, Bool.not_eq_true', decide_eq_false_iff_not]
  refine ⟨fun c hc => ?_, List.length_pos_iff.mpr (numL_ne n), numL_len (k := 4) (by decide) h, ?_⟩
  · have := numL_digits n c hc
    unfold isd
    simp only [Bool.and_eq_true, decide_eq_true_eq]
    exact this
  · by_cases h0 : n = 0
    · subst h0
      exact .inl (numL_lt (by decide))
    · exact .inr (numL_head n (by omega))
theorem tl_wd_int (n : Nat) : tl (wd (.int n)) = numL n := tl_num n
theorem wd_tl {v : V} (h : okv v) : tl (wd v) = [45] ∧ v = .non ∨ ∃ n : Nat, n < 10000 ∧ v = .int n ∧ tl (wd v) = numL n := by
  rcases h with rfl | ⟨n, rfl, hn⟩
  · exact .inl ⟨tl_dash, rfl⟩
  · exact .inr ⟨n, hn, rfl, tl_wd_int n⟩
theorem wd_free {v : V} (h : okv v) {s : Nat} (hs : s = 32 ∨ s = 10) : s ∉ tl (wd v) := by
  rcases wd_tl h with ⟨e, _⟩ | ⟨n, _, _, e⟩
  · rw [e]
    intro z
    have := List.mem_singleton.mp z
    omega
  · rw [e]
    exact numL_free (by omega)
theorem wd_len {v : V} (h : okv v) : (wd v).length ≤ 4 := by
  rw [len_tl]
  rcases wd_tl h with ⟨e, _⟩ | ⟨n, hn, _, e⟩
  · rw [e]
    decide
  · rw [e]
    exact numL_len (k := 4) (by decide) hn
theorem ch_wd {v : V} (h : okv v) : chOf (wd v) = v ∧ (dash (wd v) || fig (tl (wd v))) = true := by
  rcases h with rfl | ⟨n, rfl, hn⟩
  · exact ⟨rfl, by rfl⟩
  · have hd : dash (wd (.int n)) = false := by
      unfold dash
      rw [decide_eq_false_iff_not, eq_tl, tl_wd_int, tl_dash]
      intro z
      have : (45 : Nat) ∈ numL n := by rw [z]; simp
      exact numL_free (s := 45) (.inl (by decide)) this
    refine ⟨?_, ?_⟩
    · unfold chOf
      rw [hd, if_neg Bool.false_ne_true, tl_wd_int]
      unfold num
      rw [numL_val]
    · rw [hd, tl_wd_int, numL_fig hn]
      rfl
theorem head_tl {r : Tn} {n : Nat} (h : r.1 = n) : tl (headW r) = numL n ++ [58] := by
  unfold headW
  rw [tl_append, tl_colon, h, tl_num]
theorem words_free {r : Tn} (h : OkT r) {s : Nat} (hs : s = 32 ∨ s = 10) : ∀ w ∈ wordsT r, s ∉ tl w := by
  intro w hw
  obtain ⟨n, e, hn⟩ := h.hand
  rcases List.mem_cons.mp hw with rfl | hw
  · rw [head_tl e]
    intro z
    rcases List.mem_append.mp z with z | z
    · exact numL_free (s := s) (by omega) z
    · have := List.mem_singleton.mp z
      omega
  · obtain ⟨v, hv, rfl⟩ := List.mem_map.mp hw
    exact wd_free (h.all v hv) hs
theorem words_len {r : Tn} (h : OkT r) : ∀ w ∈ wordsT r, w.length ≤ 5 := by
  intro w hw
  obtain ⟨n, e, hn⟩ := h.hand
  rcases List.mem_cons.mp hw with rfl | hw
  · rw [len_tl, head_tl e, List.length_append]
    have := numL_len (k := 4) (by decide) hn
    simp only [List.length_cons, List.length_nil]
    omega
  · obtain ⟨v, hv, rfl⟩ := List.mem_map.mp hw
    have := wd_len (h.all v hv)
    omega
theorem ws_row {r : Tn} (h : OkT r) : ws (rowT r) = wordsT r :=
  split_join (s := 32) (S := []) tl_sp sp_plain (by unfold wordsT; simp) (words_free h (.inl rfl))
theorem row_back {r : Tn} (h : OkT r) : rowOk (rowT r) = true ∧ turnOf (rowT r) = r := by
  obtain ⟨n, e, hn⟩ := h.hand
  unfold rowOk turnOf
  rw [ws_row h]
  have hd : (tl (headW r)).dropLast = numL n := by rw [head_tl e, List.dropLast_concat]
  obtain ⟨hd0, cs⟩ := r
  have hall := h.all
  have hne := h.ne
  dsimp only at e hall hne hd
  refine ⟨?_, ?_⟩
  · cases cs with
    | nil => exact absurd rfl hne
    | cons c cs =>
      show (lastC (tl (headW (hd0, c :: cs))) && (fig (tl (headW (hd0, c :: cs))).dropLast && (wd c :: cs.map wd).all fun w => dash w || fig (tl w))) = true
      rw [hd, numL_fig hn]
      have hl : lastC (tl (headW (hd0, c :: cs))) = true := by
        rw [head_tl (r := (hd0, c :: cs)) e]
        unfold lastC
        rw [decide_eq_true_eq, List.length_append, show (numL n).length + [58].length - 1 = (numL n).length by simp]
        exact List.drop_left
      rw [hl, Bool.true_and, Bool.true_and, List.all_eq_true]
      intro w hw
      have hw2 : w ∈ (c :: cs).map wd := hw
      obtain ⟨v, hv, rfl⟩ := List.mem_map.mp hw2
      exact (ch_wd (hall v hv)).2
  · show (num (tl (headW (hd0, cs))).dropLast, (cs.map wd).map chOf) = (hd0, cs)
    rw [hd, List.map_map]
    have e2 : cs.map (chOf ∘ wd) = cs := by
      have : cs.map (chOf ∘ wd) = cs.map id := List.map_congr_left fun v hv => (ch_wd (hall v hv)).1
      rw [this, List.map_id]
    rw [e2]
    unfold num
    rw [numL_val, ← e]
/-! lengths -/
theorem joinL_len (S : List Nat) (m : Nat) : ∀ ps : List (List Nat), (∀ p ∈ ps, p.length ≤ m) → (joinL S ps).length ≤ ps.length * (m + S.length)
  | [], _ => by simp [joinL]
  | [p], h => by
    have := h p (by simp)
    show p.length ≤ _
    simp only [List.length_cons, List.length_nil]
    omega
  | p :: q :: r, h => by
    have h1 := h p (by simp)
    have ih := joinL_len S m (q :: r) fun z hz => h z (List.mem_cons_of_mem _ hz)
    show (p ++ (S ++ joinL S (q :: r))).length ≤ _
    rw [List.length_append, List.length_append, List.length_cons, Nat.succ_mul]
    omega
theorem join_len {y : Str} {m : Nat} {ps : List Str} (h : ∀ p ∈ ps, p.length ≤ m) : (Txt.join y ps).length ≤ ps.length * (m + y.length) := by
  rw [len_tl, join_eq, tl_join]
  have z := joinL_len (tl y) m (ps.map tl) fun p hp => by
    obtain ⟨w, hw, rfl⟩ := List.mem_map.mp hp
    rw [← len_tl]
    exact h w hw
  rw [List.length_map, ← len_tl] at z
  exact z
theorem sum_le {m : Nat} : ∀ ps : List Str, (∀ p ∈ ps, p.length ≤ m) → (ps.map (·.length)).sum ≤ ps.length * m
  | [], _ => by simp
  | p :: r, h => by
    have h1 := h p (by simp)
    have ih := sum_le r fun z hz => h z (List.mem_cons_of_mem _ hz)
    simp only [List.map_cons, List.sum_cons, List.length_cons, Nat.succ_mul]
    omega
theorem len_sp : (" " : Str).length = 1 := by rw [len_tl, tl_sp]; rfl
theorem len_nl : ("\n" : Str).length = 1 := by rw [len_tl, tl_nl]; rfl
/-- what a run drawn is -/
structure OkR (rs : List Tn) : Prop where
  len : rs.length ≤ 4
  row : ∀ r ∈ rs, OkT r ∧ r.2.length ≤ 6
theorem row_len {r : Tn} (h : OkT r) (hl : r.2.length ≤ 6) : (rowT r).length ≤ 42 := by
  have z := join_len (y := " ") (words_len h)
  rw [len_sp] at z
  have e : (wordsT r).length ≤ 7 := by
    unfold wordsT
    rw [List.length_cons, List.length_map]
    omega
  show (Txt.join " " (wordsT r)).length ≤ 42
  have : (wordsT r).length * (5 + 1) ≤ 7 * 6 := Nat.mul_le_mul_right _ e
  omega
theorem rows_short {rs : List Tn} (h : OkR rs) : ∀ p ∈ rs.map rowT, p.length ≤ 42 := by
  intro p hp
  obtain ⟨r, hr, rfl⟩ := List.mem_map.mp hp
  exact row_len (h.row r hr).1 (h.row r hr).2
theorem run_len {rs : List Tn} (h : OkR rs) : (runT rs).length ≤ 172 := by
  have z := join_len (y := "\n") (rows_short h)
  rw [len_nl, List.length_map] at z
  have : rs.length * (42 + 1) ≤ 4 * 43 := Nat.mul_le_mul_right _ h.len
  show (Txt.join "\n" (rs.map rowT)).length ≤ 172
  omega
theorem row_nonl {r : Tn} (h : OkT r) : 10 ∉ tl (rowT r) := by
  show 10 ∉ tl (Txt.join " " (wordsT r))
  rw [join_eq, tl_join, tl_sp]
  have hf := words_free h (s := 10) (.inr rfl)
  have : ∀ ps : List (List Nat), (∀ p ∈ ps, 10 ∉ p) → 10 ∉ joinL [32] ps := by
    intro ps
    induction ps with
    | nil => intro _ z; cases z
    | cons p ps ih =>
      intro hp z
      cases ps with
      | nil => exact hp p (by simp) z
      | cons q r =>
        have z2 : 10 ∈ p ++ ([32] ++ joinL [32] (q :: r)) := z
        rcases List.mem_append.mp z2 with z3 | z3
        · exact hp p (by simp) z3
        · rcases List.mem_append.mp z3 with z4 | z4
          · exact absurd (List.mem_singleton.mp z4) (by decide)
          · exact ih (fun s hs => hp s (List.mem_cons_of_mem _ hs)) z4
  refine this _ fun p hp => ?_
  obtain ⟨w, hw, rfl⟩ := List.mem_map.mp hp
  exact hf w hw
theorem split_run {rs : List Tn} (h : OkR rs) (hne : rs ≠ []) : Txt.split (runT rs) "\n" = rs.map rowT := by
  refine split_join (s := 10) (S := []) tl_nl nl_plain (fun e => hne (List.map_eq_nil_iff.mp e)) fun p hp => ?_
  obtain ⟨r, hr, rfl⟩ := List.mem_map.mp hp
  exact row_nonl (h.row r hr).1
theorem row_ne {r : Tn} (h : OkT r) : tl (rowT r) ≠ [] := fun e => by
  have z := ws_row h
  unfold ws at z
  rw [ext_tl (e.trans tl_empty.symm)] at z
  have z2 := congrArg List.length z
  have z3 := congrArg List.length (split_sp "")
  rw [List.length_map, tl_empty, spl_nil] at z3
  rw [z3] at z2
  unfold wordsT at z2
  have hp := List.length_pos_iff.mpr h.ne
  simp only [List.length_cons, List.length_nil, List.length_map] at z2
  omega
theorem run_empty {rs : List Tn} (h : OkR rs) : runT rs = "" ↔ rs = [] := by
  constructor
  · intro e
    cases rs with
    | nil => rfl
    | cons r rs =>
      have z := congrArg tl e
      unfold runT at z
      rw [join_eq, tl_join, tl_nl, tl_empty, List.map_cons, List.map_cons] at z
      have hr := row_ne (h.row r List.mem_cons_self).1
      cases hq : (rs.map rowT).map tl with
      | nil =>
        rw [hq] at z
        exact absurd z hr
      | cons q qs =>
        rw [hq] at z
        have z2 : tl (rowT r) ++ ([10] ++ joinL [10] (q :: qs)) = [] := z
        simp at z2
  · rintro rfl
    rfl
theorem rows_run {rs : List Tn} (h : OkR rs) : rowsOf (runT rs) = rs.map rowT := by
  unfold rowsOf
  by_cases e : rs = []
  · subst e
    rw [if_pos ((run_empty h).mpr rfl)]
    rfl
  · rw [if_neg fun z => e ((run_empty h).mp z), split_run h e]
/-- written, read back -/
theorem run_back {rs : List Tn} (h : OkR rs) : (∀ row ∈ rowsOf (runT rs), rowOk row = true) ∧ (rowsOf (runT rs)).map turnOf = rs := by
  rw [rows_run h]
  refine ⟨fun row hr => ?_, ?_⟩
  · obtain ⟨r, hm, rfl⟩ := List.mem_map.mp hr
    exact (row_back (h.row r hm).1).1
  · rw [List.map_map]
    have : rs.map (turnOf ∘ rowT) = rs.map id := List.map_congr_left fun r hr => (row_back (h.row r hr).1).2
    rw [this, List.map_id]
/-- the rows of a text that is bent -/
theorem line_rows {rs : List Tn} (h : OkR rs) : (Txt.split (runT rs) "\n").length ≤ 4 ∧ 1 ≤ (Txt.split (runT rs) "\n").length ∧ ∀ p ∈ Txt.split (runT rs) "\n", p.length ≤ 42 := by
  by_cases e : rs = []
  · subst e
    have z3 := split_nl (runT [])
    rw [(run_empty h).mpr rfl, tl_empty, spl_nil] at z3
    rw [(run_empty h).mpr rfl]
    have z : Txt.split "" "\n" = [("" : Str)] := map_tl_inj (by rw [z3, List.map_cons, tl_empty]; rfl)
    rw [z]
    refine ⟨by decide, by decide, fun p hp => ?_⟩
    rw [List.mem_singleton.mp hp]
    decide
  · rw [split_run h e, List.length_map]
    exact ⟨h.len, List.length_pos_iff.mpr e, rows_short h⟩
end K50

set_option maxHeartbeats 4000000
namespace K50
open PySem PySem.Spec PyProof.Rows L2 TL G3 G4
/-! ### turns in the heap -/
inductive Tns (H : Hp) : List (Addr × Addr) → List Tn → Prop
  | nil : Tns H [] []
  | cons {t : Addr × Addr} {r : Tn} {ts : List (Addr × Addr)} {rs : List Tn} : H t.1 = some (.tup [.int r.1, .ref t.2]) → H t.2 = some (.lst r.2) → Tns H ts rs → Tns H (t :: ts) (r :: rs)
theorem Tns.len {H : Hp} : ∀ {ts : List (Addr × Addr)} {rs : List Tn}, Tns H ts rs → ts.length = rs.length
  | _, _, .nil => rfl
  | _, _, .cons _ _ h => by rw [List.length_cons, List.length_cons, h.len]
theorem Tns.get {H : Hp} : ∀ {ts : List (Addr × Addr)} {rs : List Tn}, Tns H ts rs → ∀ {i : Nat} {r : Tn}, rs[i]? = some r → ∃ t, ts[i]? = some t ∧ H t.1 = some (.tup [.int r.1, .ref t.2]) ∧ H t.2 = some (.lst r.2)
  | _, _, .nil, _, _, e => by simp at e
  | _, _, .cons h1 h2 h, 0, r, e => by
    simp at e
    subst e
    exact ⟨_, rfl, h1, h2⟩
  | _, _, .cons h1 h2 h, i + 1, r, e => by
    obtain ⟨t, g, k⟩ := h.get (i := i) (r := r) (by simpa using e)
    exact ⟨t, by simpa using g, k⟩
theorem Tns.snoc {H : Hp} {t : Addr × Addr} {r : Tn} (h1 : H t.1 = some (.tup [.int r.1, .ref t.2])) (h2 : H t.2 = some (.lst r.2)) : ∀ {ts : List (Addr × Addr)} {rs : List Tn}, Tns H ts rs → Tns H (ts ++ [t]) (rs ++ [r])
  | _, _, .nil => .cons h1 h2 .nil
  | _, _, .cons g1 g2 g => .cons g1 g2 (g.snoc h1 h2)
theorem Tns.last {H : Hp} : ∀ {ts : List (Addr × Addr)} {i : List Tn} {r : Tn}, Tns H ts (i ++ [r]) → ∃ js t, ts = js ++ [t] ∧ Tns H js i ∧ H t.1 = some (.tup [.int r.1, .ref t.2]) ∧ H t.2 = some (.lst r.2)
  | _, [], r, .cons h1 h2 h => by
    cases h
    exact ⟨[], _, rfl, .nil, h1, h2⟩
  | _, x :: i, r, .cons h1 h2 h => by
    obtain ⟨js, t, e, g, k⟩ := Tns.last (i := i) (r := r) h
    exact ⟨_ :: js, t, by rw [e]; rfl, .cons h1 h2 g, k⟩
/-- where the heap is otherwise elsewhere alone -/
theorem Tns.keep {H H' : Hp} : ∀ {ts : List (Addr × Addr)} {rs : List Tn}, Tns H ts rs → (∀ t ∈ ts, H' t.1 = H t.1 ∧ H' t.2 = H t.2) → Tns H' ts rs
  | _, _, .nil, _ => .nil
  | _, _, .cons h1 h2 h, k => by
    have q := k _ List.mem_cons_self
    exact .cons (q.1.trans h1) (q.2.trans h2) (h.keep fun t m => k t (List.mem_cons_of_mem _ m))
theorem Tns.mem {H : Hp} {ts : List (Addr × Addr)} {rs : List Tn} (h : Tns H ts rs) {t : Addr × Addr} (m : t ∈ ts) : ∃ r ∈ rs, H t.1 = some (.tup [.int r.1, .ref t.2]) ∧ H t.2 = some (.lst r.2) := by
  obtain ⟨i, hi, e⟩ := List.getElem_of_mem m
  have hl : i < rs.length := by rw [← h.len]; exact hi
  obtain ⟨t2, g, k⟩ := h.get (List.getElem?_eq_getElem hl)
  rw [List.getElem?_eq_getElem hi, e] at g
  cases g
  exact ⟨_, List.getElem_mem hl, k⟩
theorem Tns.same {H H' : Hp} {ts : List (Addr × Addr)} {rs : List Tn} (h : Tns H ts rs) (s : Same H H') : Tns H' ts rs := h.keep fun t m => by
  obtain ⟨r, _, h1, h2⟩ := h.mem m
  exact ⟨(s _ _ h1).trans h1.symm, (s _ _ h2).trans h2.symm⟩
/-- a store at a place that is none of its lists -/
theorem Tns.put {H : Hp} {q : Addr} {xs : List V} {o : HO} {ts : List (Addr × Addr)} {rs : List Tn} (h : Tns H ts rs) (hq : H q = some (.lst xs)) (n : ∀ t ∈ ts, t.2 ≠ q) : Tns (upd H q o) ts rs := h.keep fun t m => by
  obtain ⟨r, _, h1, h2⟩ := h.mem m
  exact ⟨upd_ne (ne_of h1 hq (by intro z; cases z)), upd_ne (n t m)⟩
/-- a list of turns at p -/
def RaceAt (H : Hp) (p : Addr) (ts : List (Addr × Addr)) (rs : List Tn) : Prop := H p = some (.lst (ts.map fun t => V.ref t.1)) ∧ Tns H ts rs
theorem RaceAt.same {H H' : Hp} {p : Addr} {ts : List (Addr × Addr)} {rs : List Tn} (h : RaceAt H p ts rs) (s : Same H H') : RaceAt H' p ts rs := ⟨s _ _ h.1, h.2.same s⟩
theorem RaceAt.at {H : Hp} {p : Addr} {ts : List (Addr × Addr)} {rs : List Tn} (h : RaceAt H p ts rs) {i : Nat} {x : V} (e : (ts.map fun t => V.ref t.1)[i]? = some x) :
    ∃ (t : Addr × Addr) (r : Tn), x = .ref t.1 ∧ rs[i]? = some r ∧ H t.1 = some (.tup [.int r.1, .ref t.2]) ∧ H t.2 = some (.lst r.2) := by
  rw [List.getElem?_map] at e
  obtain ⟨t, g, rfl⟩ := Option.map_eq_some_iff.mp e
  have hi := (List.getElem?_eq_some_iff.mp g).1
  rw [h.2.len] at hi
  obtain ⟨t2, g2, k⟩ := h.2.get (List.getElem?_eq_getElem hi)
  rw [g] at g2
  cases g2
  exact ⟨t, _, rfl, List.getElem?_eq_getElem hi, k⟩
/-- new turns: none of them was there -/
def New (H : Hp) (p : Addr) (us : List (Addr × Addr)) : Prop := ∀ t ∈ us, H t.1 = none ∧ H t.2 = none ∧ t.2 ≠ p
theorem map_snoc (us : List (Addr × Addr)) (t : Addr × Addr) : ((us ++ [t]).map fun t => V.ref t.1) = (us.map fun t => V.ref t.1) ++ [.ref t.1] := by
  rw [List.map_append]
  rfl
/-! ### runs as data -/
def dV : V → PyData
  | .int i => .int i
  | _ => .none
def dT (r : Tn) : PyData := .tuple [.int r.1, .list (r.2.map dV)]
def dR (rs : List Tn) : PyData := .list (rs.map dT)
/-- what may be shown -/
structure OkS (rs : List Tn) : Prop where
  len : rs.length ≤ 400
  hand : ∀ r ∈ rs, 0 ≤ r.1 ∧ r.1 < 10000
  few : ∀ r ∈ rs, r.2.length ≤ 400
  all : ∀ r ∈ rs, ∀ v ∈ r.2, okv v
theorem ints_nice (n : Nat) (h : n < 10000) : nice (.int n) = true := by
  refine nice_mk ?_ (by simp only [PyData.canLay0]) ?_
  · simp only [PyData.showable, decide_eq_true_eq, Int.natAbs_natCast]
    by_cases h0 : n = 0
    · subst h0
      decide
    · exact (Nat.log2_lt h0).mpr (Nat.lt_trans h (Nat.lt_of_lt_of_le (by decide : 10000 < 2 ^ 14) (Nat.pow_le_pow_right (by decide) (by decide))))
  · simp only [PyData.leavesShort, decide_eq_true_eq]
    rw [PyData.shown_int, len_tl]
    have e := tl_num n
    rw [e]
    exact Nat.le_trans (numL_len (k := 4) (by decide) h) (by decide)
theorem nice_num {i : Int} (h : 0 ≤ i) (h2 : i < 10000) : nice (.int i) = true := by
  have q := ints_nice i.toNat (by omega)
  rw [Int.toNat_of_nonneg h] at q
  exact q
theorem dV_dp {K : PySem.W.Frag} {H : Hp} {v : V} (h : okv v) : Dp K H v (dV v) := by
  rcases h with rfl | ⟨n, rfl, _⟩
  · exact .non
  · exact .int _
theorem dV_nice {v : V} (h : okv v) : nice (dV v) = true := by
  rcases h with rfl | ⟨n, rfl, hn⟩
  · exact nice_none
  · exact ints_nice n hn
theorem dV_depth (v : V) : (dV v).depth ≤ 0 := by
  cases v <;> simp [dV, PyData.depth]
theorem dV_bulk (v : V) : (dV v).bulk ≤ 0 := by
  cases v <;> simp [dV, PyData.bulk]
theorem tns_dp {K : PySem.W.Frag} {H : Hp} : ∀ {ts : List (Addr × Addr)} {rs : List Tn}, Tns H ts rs → (∀ r ∈ rs, ∀ v ∈ r.2, okv v) → DpAll K H (ts.map fun t => V.ref t.1) (rs.map dT)
  | _, _, .nil, _ => .nil
  | _, _, .cons h1 h2 h, ho => by
    refine .cons (.tup (SqT.of h1) (.cons (.int _) (.cons (.lst (SqL.of h2) ?_) .nil))) (tns_dp h fun q hq => ho q (List.mem_cons_of_mem _ hq))
    have hz := dpAll_map (K := K) (H := H) (f := fun v : V => v) (g := dV) _ fun v hv => dV_dp (ho _ List.mem_cons_self v hv)
    rw [List.map_id'] at hz
    exact hz
theorem race_dp {K : PySem.W.Frag} {H : Hp} {p : Addr} {ts : List (Addr × Addr)} {rs : List Tn} (h : RaceAt H p ts rs) (ho : OkS rs) : Dp K H (.ref p) (dR rs) := .lst (SqL.of h.1) (tns_dp h.2 ho.all)
theorem dT_nice {rs : List Tn} (ho : OkS rs) : ∀ x ∈ rs.map dT, nice x = true := by
  intro x hx
  obtain ⟨r, hr, rfl⟩ := List.mem_map.mp hx
  have h1 := ho.hand r hr
  refine nice_tuple fun y hy => ?_
  rcases List.mem_cons.mp hy with rfl | hy
  · exact nice_num h1.1 h1.2
  · rw [List.mem_singleton.mp hy]
    refine nice_list fun z hz => ?_
    obtain ⟨v, hv, rfl⟩ := List.mem_map.mp hz
    exact dV_nice (ho.all r hr v hv)
theorem dR_nice {rs : List Tn} (ho : OkS rs) : nice (dR rs) = true := nice_list (dT_nice ho)
theorem dT_depth (r : Tn) : (dT r).depth ≤ 2 := depth_tuple fun y hy => by
  rcases List.mem_cons.mp hy with rfl | hy
  · simp only [PyData.depth]; omega
  · rw [List.mem_singleton.mp hy]
    refine depth_list fun z hz => ?_
    obtain ⟨v, _, rfl⟩ := List.mem_map.mp hz
    exact dV_depth v
theorem dR_depth (rs : List Tn) : (dR rs).depth ≤ 60 := Nat.le_trans (depth_list (k := 2) fun y hy => by
  obtain ⟨r, _, rfl⟩ := List.mem_map.mp hy
  exact dT_depth r) (by decide)
theorem dT_bulk {r : Tn} (h : r.2.length ≤ 400) : (dT r).bulk ≤ 802 := Nat.le_trans (bulk_tuple (m := 400) (n := 2) (fun y hy => by
  rcases List.mem_cons.mp hy with rfl | hy
  · simp only [PyData.bulk]; omega
  · rw [List.mem_singleton.mp hy]
    refine Nat.le_trans (bulk_list (m := 0) (n := 400) (fun z hz => ?_) (by rw [List.length_map]; exact h)) (by decide)
    obtain ⟨v, _, rfl⟩ := List.mem_map.mp hz
    exact dV_bulk v) (Nat.le_refl 2)) (by decide)
theorem dR_fits {rs : List Tn} (ho : OkS rs) : (dR rs).shown.length ≤ sizeLine := by
  refine nice_fits (dR_nice ho) (Nat.le_trans (bulk_list (m := 802) (n := 400) (fun y hy => ?_) (by rw [List.length_map]; exact ho.len)) (by decide))
  obtain ⟨r, hr, rfl⟩ := List.mem_map.mp hy
  exact dT_bulk (ho.few r hr)
theorem dR_shaped {rs : List Tn} (ho : OkS rs) : SeqAt.shaped (dR rs) = true := nice_shaped (dR_nice ho) (dR_depth rs)
theorem OkR.shows {rs : List Tn} (h : OkR rs) : OkS rs := ⟨by have := h.len; omega, fun r hr => by
  obtain ⟨n, e, hn⟩ := (h.row r hr).1.hand
  rw [e]
  omega, fun r hr => by have := (h.row r hr).2; omega, fun r hr => (h.row r hr).1.all⟩
/-! what is read of a text -/
theorem ch_ok {z : Str} (h : (dash z || fig (tl z)) = true) : okv (chOf z) := by
  unfold chOf
  split
  · exact .inl rfl
  · next e =>
    have hf : fig (tl z) = true := by
      cases hd : dash z with
      | true => exact absurd hd e
      | false => rw [hd, Bool.false_or] at h; exact h
    have z2 := num_lt hf
    exact .inr ⟨NumText.digitsVal (tl z), rfl, by unfold num at z2; omega⟩
theorem okWs_short : ∀ {l : List Str}, l.length < 2 → okWs l = false
  | [], _ => by simp only [okWs]
  | [_], _ => by simp only [okWs]
  | _ :: _ :: _, h => absurd h (by simp)
theorem two_of : ∀ {l : List Str}, ¬ l.length < 2 → ∃ h r rest, l = h :: r :: rest
  | [], h => absurd (by simp) h
  | [_], h => absurd (by simp) h
  | a :: b :: c, _ => ⟨a, b, c, rfl⟩
theorem okWs_parts {wsl : List Str} (h : okWs wsl = true) : ∃ hd r, wsl = hd :: r ∧ fig (tl hd).dropLast = true ∧ ∀ z ∈ r, (dash z || fig (tl z)) = true := by
  match wsl, h with
  | hd :: r :: rest, h =>
    have h2 : (lastC (tl hd) && (fig (tl hd).dropLast && (r :: rest).all fun w => dash w || fig (tl w))) = true := h
    simp only [Bool.and_eq_true] at h2
    exact ⟨hd, _, rfl, h2.2.1, List.all_eq_true.mp h2.2.2⟩
theorem read_shows {t : Str} (ht : t.length ≤ 300) {rows : List Str} (hs : ∀ row ∈ rows, row ∈ rowsOf t ∧ rowOk row = true) (hl : rows.length ≤ (rowsOf t).length) : OkS (rows.map turnOf) := by
  have part : ∀ row ∈ rows, 0 ≤ (turnOf row).1 ∧ (turnOf row).1 < 10000 ∧ (turnOf row).2.length ≤ 400 ∧ ∀ v ∈ (turnOf row).2, okv v := by
    intro row hr
    obtain ⟨hd, r, e, hf, ha⟩ := okWs_parts (hs row hr).2
    have el : turnOf row = (num (tl hd).dropLast, r.map chOf) := by
      unfold turnOf
      rw [e]
      rfl
    rw [el]
    have z := num_lt hf
    refine ⟨z.1, z.2, ?_, fun v hv => ?_⟩
    · have h1 := ws_len row
      have h2 := rows_part (hs row hr).1
      rw [e] at h1
      rw [List.length_map]
      simp only [List.length_cons] at h1
      omega
    · obtain ⟨y, hy, rfl⟩ := List.mem_map.mp hv
      exact ch_ok (ha y hy)
  refine ⟨?_, fun r hr => ?_, fun r hr => ?_, fun r hr => ?_⟩
  · have := rows_len t
    rw [List.length_map]
    omega
  all_goals
    obtain ⟨row, hm, rfl⟩ := List.mem_map.mp hr
    have z := part row hm
    first | exact ⟨z.1, z.2.1⟩ | exact z.2.2.1 | exact z.2.2.2
end K50

set_option maxHeartbeats 4000000
namespace K50
open PySem PySem.Spec PyProof.Rows L2 TL G3 G4 M0 EE
def topS (i : Nat) : Stmt := PySem.Challenge.pw_fewturnsover_k50_runs_written.main.body.getD i (.Pass ⟨0, 0, 0, 0⟩)
abbrev sInit : Stmt := initOf (topS 2)
abbrev sFig : Stmt := topS 5
abbrev sShown : Stmt := topS 7
abbrev sTurn : Stmt := topS 8
abbrev sRead : Stmt := topS 9
abbrev sTake : Stmt := topS 11
abbrev sPool : Stmt := topS 12
abbrev sDrawn : Stmt := topS 13
abbrev sText : Stmt := topS 14
abbrev sNum : Stmt := topS 15
abbrev sDue : Stmt := topS 16
abbrev sTold : Stmt := topS 17
abbrev sBent : Stmt := topS 18
abbrev sLaw : Stmt := topS 19
structure Def (P : Program) (w : World) (K : PySem.W.Frag) (mg : Str → Option Value) (base : Heap) (CX : CXT) (k : Nat) (x : Str) (ps : List Str) (sp : Sp) where
  f : Addr
  d : FuncData
  ok : FnOk P w K mg base CX k f d ps sp
  g : mg x = some (.ref f)
  kp : PySem.W.keepIn K (.ref f) = true
  b : Binds K d ps []
theorem scFig : FnScope ["word"] ["word"] (defScope sFig) := ⟨rfl, rfl, rfl, by decide +kernel, rfl, by decide +kernel, by decide +kernel⟩
theorem small_line {n : Nat} (h : n ≤ 1000000) : n ≤ sizeLine := Nat.le_trans h (by decide)
section
variable {P : Program} {w : World} {K : PySem.W.Frag} {mg : Str → Option Value} {base : Heap}
def spFig : Sp := fun vs H Q _ => ∃ z : Str, vs = [.str z] ∧ z.length ≤ 1000 ∧ Q (.bl (fig (tl z))) H
theorem ok_fig {f : Addr} {fd : FuncData} {k : Nat} {t : Tok} (F : Fun K "is_figures" "is_figures" sFig f fd) (ml : mg "len" = none) (mM : mg "MOST_FIGURES" = some (.int 4 t)) : FnOk P w K mg base CX0 (k + 1) f fd ["word"] spFig := by
  refine F.ok scFig (fun vs H Q E h => ?_) (fun cdv A outer s H vs Q E hr h => ?_)
  · obtain ⟨z, rfl, _⟩ := h
    rfl
  obtain ⟨z, rfl, hz, q⟩ := h
  have nd := scFig.nd
  refine ⟨_, pss_cons (ps_if (PW.pt (pw_or (pt_not (pt_val (pe_m0 PySem.F.slot_str_isascii PySem.F.type_str_isascii mt_isascii (pv 0))))
      (pw_or (pt_not (pt_val (pe_m0 PySem.F.slot_str_isdigit PySem.F.type_str_isdigit mt_isdigit (pv 0))))
      (pw_or1 (pt_cmpR op_gt (pe_callB call_len_str (by rfl) ml PySem.boot_len (pa_cons (pv 0) pa_nil)) (pe_glob (v := .int 4) (by rfl) mM ⟨_, rfl⟩) (nomark _))))))
      (pss_one (ps_ret pe_bl)) pss_nil)
    (pss_one (ps_ret (pe_or (pe_cmpR op_eq (pv 0) pe_str (nomark _)) (pe_one (pe_cmpR op_ne (pe_item_str (pv 0) pe_int (fun _ _ => rfl)) pe_str (nomark _)))))), ?_⟩
  have hl := len_tl z
  refine ⟨_, rfl, ⟨z, rfl⟩, z, rfl, rfl, trivial, _, rfl, ite2 (fun e => iteT ?_) (fun e => ⟨_, rfl, ⟨z, rfl⟩, z, rfl, rfl, trivial, _, rfl, ite2 (fun e2 => iteT ?_) (fun e2 => ⟨_, rfl, z, rfl, small_line (by omega), _, _, rfl, rfl, _, rfl, ite2 (fun e3 => ?_) (fun e3 => ?_)⟩)⟩)⟩
  · have a : fig (tl z) = false := fig_no1 (.inl (by simpa using e))
    rw [a] at q
    exact q
  · have a : fig (tl z) = false := fig_no1 (.inr (by simpa using e2))
    rw [a] at q
    exact q
  · have a : fig (tl z) = false := fig_no2 (by have := of_decide_eq_true e3; omega)
    rw [a] at q
    exact q
  · have h4 : (tl z).length ≤ 4 := by
      have : ¬ ((4 : Int) < (z.length : Int)) := fun x => e3 (decide_eq_true x)
      omega
    obtain ⟨a, ne⟩ := fig_yes (w := z) (by simpa using e) (by simpa using e2) h4
    have hp := List.length_pos_iff.mpr ne
    rw [a] at q
    refine ⟨_, rfl, rfl, _, rfl, ite2 (fun e4 => ?_) (fun e4 => ?_)⟩
    · have b : tl z = [48] := by
        rw [V.str.inj (of_decide_eq_true e4)]
        exact tl_zero
      rw [decide_eq_true b, Bool.true_or] at q
      exact q
    · have b : decide (tl z = [48]) = false := by
        rw [decide_eq_false_iff_not]
        intro x
        exact e4 (decide_eq_true (congrArg V.str (ext_tl (x.trans tl_zero.symm))))
      rw [b, Bool.false_or] at q
      obtain ⟨c, r, hc⟩ : ∃ c r, tl z = c :: r := List.exists_cons_of_ne_nil ne
      have hg : z.cps[0]? = some c := by
        rw [← Array.getElem?_toList]
        show (tl z)[0]? = _
        rw [hc]
        rfl
      refine ⟨_, rfl, z, 0, c, rfl, rfl, by decide, by decide, by omega, hg, rfl, ?_⟩
      show Q (.bl (!decide (V.str ⟨#[c]⟩ = V.str "0"))) H
      have d : decide (V.str ⟨#[c]⟩ = V.str "0") = decide ((tl z).head? = some 48) := by
        rw [decide_eq_decide, hc]
        constructor
        · intro x
          have y := congrArg tl (V.str.inj x)
          rw [tl_zero] at y
          have y2 : [c] = [48] := y
          cases y2
          rfl
        · intro x
          cases x
          exact congrArg V.str (ext_tl tl_zero.symm)
      rw [d]
      exact q
end
end K50

set_option maxHeartbeats 4000000
namespace K50
open PySem PySem.Spec PyProof.Rows L2 TL G3 G4 M0 EE
theorem scTurn : FnScope ["words", "word"] ["words"] (defScope sTurn) := ⟨rfl, rfl, rfl, by decide +kernel, rfl, by decide +kernel, by decide +kernel⟩
/-- plain signs -/
def Asc (z : Str) : Prop := ∀ c ∈ tl z, c < 128
/-- short words, a list of them -/
def Words (K : PySem.W.Frag) (H : Hp) (a : Addr) (wsl : List Str) : Prop := SqL K H a (wsl.map V.str) ∧ wsl.length ≤ 1000 ∧ ∀ z ∈ wsl, z.length ≤ 1000 ∧ Asc z
theorem Words.same {K : PySem.W.Frag} {H H' : Hp} {a : Addr} {wsl : List Str} (h : Words K H a wsl) (s : Same H H') : Words K H' a wsl := ⟨s.seq h.1, h.2⟩
theorem cutV_tail (xs : List V) : cutV xs (some 1) none = xs.drop 1 := by
  unfold cutV
  have e1 : HT.sIx xs.length 0 (some 1) = min 1 xs.length := HT.sIx_nat _ _ 1
  have e2 : HT.sIx xs.length xs.length none = xs.length := rfl
  rw [e1, e2]
  cases xs with
  | nil => rfl
  | cons x r =>
    rw [show min 1 (x :: r).length = 1 by simp]
    show ((x :: r).drop 1).take ((x :: r).length - 1) = r
    simp
/-- what is asked of a word behind the first -/
def okW (v : V) : V := match v with
  | .str z => .bl (dash z || fig (tl z))
  | _ => .non
theorem okW_map (wsl : List Str) : (wsl.map V.str).map okW = (wsl.map fun z => dash z || fig (tl z)).map V.bl := by
  rw [List.map_map, List.map_map]
  rfl
theorem all_id (bs : List Str) (p : Str → Bool) : (bs.map p).all id = bs.all p := by
  rw [List.all_map]
  rfl
section
variable {P : Program} {w : World} {K : PySem.W.Frag} {mg : Str → Option Value} {base : Heap}
def spTurn (K : PySem.W.Frag) : Sp := fun vs H Q _ => ∃ (a : Addr) (wsl : List Str), vs = [.ref a] ∧ Words K H a wsl ∧ ∀ H', Same H H' → Q (.bl (okWs wsl)) H'
theorem at0 {h : Str} {r : List Str} : atI ((h :: r).map V.str) 0 = some (.str h) := atI_nat (j := 0) rfl
theorem ok_turn {f : Addr} {fd : FuncData} {k : Nat} (F : Fun K "is_turn_row" "is_turn_row" sTurn f fd) (D : Def P w K mg base CX0 (k + 1) "is_figures" ["word"] spFig) (ml : mg "len" = none) (ma : mg "all" = none) : FnOk P w K mg base CX0 (k + 1 + 1) f fd ["words"] (spTurn K) := by
  refine F.ok scTurn (fun vs H Q E h => ?_) (fun cdv A outer s H vs Q E hr h => ?_)
  · obtain ⟨a, wsl, rfl, _⟩ := h
    rfl
  obtain ⟨a, wsl, rfl, hW, q⟩ := h
  have nd := scTurn.nd
  refine ⟨_, pss_cons (ps_if (PW.pt (pw_or (pt_cmpR op_lt (pe_callB call_len_seq (by rfl) ml PySem.boot_len (pa_cons (pv 0) pa_nil)) pe_int (nomark _))
      (pw_or (pt_not (pt_val (pe_m1 PySem.F.slot_str_endswith PySem.F.type_str_endswith mt_endswith (pe_ix ix_list (pv 0) pe_int (fun _ _ => rfl)) pe_str)))
      (pw_or1 (pt_not (pt_val (pe_call D.ok hr (by rfl) D.g D.kp D.b .nil pass0 (pa_cons (pe_slice sl_str (pe_ix ix_list (pv 0) pe_int (fun _ _ => rfl)) po_none (po_some (pe_un un_neg pe_int))) pa_nil))))))))
      (pss_one (ps_ret pe_bl)) pss_nil)
    (pss_one (ps_ret (pe_callB (cr_all rfl) (by rfl) ma PyProof.Rows.boot_all (pa_cons
      (pe_lc (own := [("word", 1)]) (g := gName 1) (tt := tYes) (by rfl) nd (pi_list (pe_slice sl_list (pv 0) (po_some pe_int) po_none))
        (blkOk_by (N := ["words", "word"]) (sc := defScope sTurn) (by decide +kernel)) (fun _ _ _ _ _ => pg_name (i := 1) nd rfl (.inl rfl)) (fun _ _ _ _ _ => pts_nil)
        (fun _ _ _ _ _ => pe_or (pe_cmpR op_eq (pv 1) pe_str (nomark _)) (pe_one (pe_call D.ok hr (by rfl) D.g D.kp D.b .nil pass0 (pa_cons (pv 1) pa_nil))))) pa_nil)))), ?_⟩
  have hl : ((wsl.map V.str).length : Int) = wsl.length := by rw [List.length_map]
  refine ⟨_, rfl, a, _, rfl, .inl hW.1, _, _, rfl, rfl, _, rfl, ite2 (fun e => iteT ?_) (fun e => ?_)⟩
  · have e1 : wsl.length < 2 := by
      have := of_decide_eq_true e
      omega
    have z : okWs wsl = false := okWs_short e1
    have z2 := q H (Same.refl H)
    rw [z] at z2
    exact z2
  have e1 : ¬ wsl.length < 2 := fun x => e (decide_eq_true (by omega))
  obtain ⟨h, r, rest, rfl⟩ := two_of e1
  have hh : h.length ≤ 1000 := (hW.2.2 h List.mem_cons_self).1
  have ek : okWs (h :: r :: rest) = (lastC (tl h) && (fig (tl h).dropLast && (r :: rest).all fun w => dash w || fig (tl w))) := rfl
  refine ⟨_, rfl, a, _, 0, _, rfl, rfl, hW.1, at0, ⟨h, rfl⟩, h, _, rfl, rfl, _, rfl, ite2 (fun e2 => iteT ?_) (fun e2 => ?_)⟩
  · rw [ends_colon] at e2
    have z2 := q H (Same.refl H)
    rw [ek, show lastC (tl h) = false by simpa using e2, Bool.false_and] at z2
    exact z2
  rw [ends_colon] at e2
  refine ⟨_, rfl, a, _, 0, _, rfl, rfl, hW.1, at0, ?_⟩
  dsimp only [tNoPart]
  refine ⟨1, rfl, -1, rfl, h, rfl, small_line (by omega), cutS h none (some (-1)), rfl, ?_, _, rfl, ?_⟩
  · have := cutS_length h none (some (-1))
    omega
  rw [cut_but]
  refine ite2 (fun e3 => ?_) (fun e3 => ?_)
  · have z2 := q H (Same.refl H)
    rw [ek, show fig (tl h).dropLast = false from by simpa using e3, Bool.false_and, Bool.and_false] at z2
    exact z2
  have eq2 : okWs (h :: r :: rest) = (r :: rest).all fun w => dash w || fig (tl w) := by
    rw [ek, show lastC (tl h) = true by simpa using e2, show fig (tl h).dropLast = true from by simpa using e3, Bool.true_and, Bool.true_and]
  refine ⟨_, rfl, 1, rfl, a, _, rfl, hW.1, fun b nb => ⟨b, rfl, ⟨_, SqL.of upd_same⟩, fun L nL => ?_⟩⟩
  have hb : SqL K (upd H b (.lst (cutV ((h :: r :: rest).map V.str) (some 1) none))) b ((r :: rest).map V.str) := by
    rw [cutV_tail]
    exact SqL.of upd_same
  refine LC.lc_map (walk_list (a := b) (xs := (r :: rest).map V.str) (K := K)) (fun H' s' => s'.seq hb) ?_ nL okW (fun x H2 R mx s2 fin => ⟨rfl, ?_⟩) (fun H2 s2 hL => ?_)
  · have := hW.2.1
    rw [List.length_map]
    simp only [List.length_cons] at this ⊢
    omega
  · obtain ⟨z, mz, rfl⟩ := List.mem_map.mp mx
    have hz := (hW.2.2 z (List.mem_cons_of_mem _ mz)).1
    refine ⟨_, rfl, rfl, _, rfl, ite2 (fun e4 => ?_) (fun e4 => ?_)⟩
    · have y := fin H2 (Same.refl H2)
      have d : dash z = true := by
        unfold dash
        rw [V.str.inj (of_decide_eq_true e4)]
        rfl
      have y2 : R (.bl (dash z || fig (tl z))) H2 := y
      rw [d, Bool.true_or] at y2
      exact y2
    · refine ⟨_, rfl, z, rfl, hz, ?_⟩
      have y : R (.bl (dash z || fig (tl z))) H2 := fin H2 (Same.refl H2)
      have d : dash z = false := by
        unfold dash
        rw [decide_eq_false_iff_not]
        intro x
        exact e4 (decide_eq_true (congrArg V.str x))
      rw [d, Bool.false_or] at y
      exact y
  · rw [okW_map] at hL
    refine ⟨L, _, rfl, SqL.of hL, ?_⟩
    rw [all_id, ← eq2]
    exact q H2 ((same_new nb).trans s2)
end
end K50

set_option maxHeartbeats 4000000
namespace K50
open PySem PySem.Spec PyProof.Rows L2 TL G3 G4 M0 EE
section
variable {P : Program} {w : World} {K : PySem.W.Frag} {mg : Str → Option Value} {base : Heap}
theorem scNum : FnScope ["_law_word", "_law_sign"] ["_law_word"] (defScope sNum) := ⟨rfl, rfl, rfl, by decide +kernel, rfl, by decide +kernel, by decide +kernel⟩
/-! the law's own look at a number -/
def noDig (v : V) : Bool := match v with
  | .str z => !(tl z).all isd
  | _ => true
theorem tl_digs : tl ("0123456789" : Str) = [48, 49, 50, 51, 52, 53, 54, 55, 56, 57] := by decide +kernel
theorem dig_in (c : Nat) : decide (c ∈ tl ("0123456789" : Str)) = isd c := by
  rw [tl_digs, Bool.eq_iff_iff, decide_eq_true_eq]
  unfold isd
  simp only [Bool.and_eq_true, decide_eq_true_eq, List.mem_cons, List.not_mem_nil, or_false]
  omega
theorem noDig_one (c : Nat) : noDig (.str ⟨#[c]⟩) = !isd c := by
  show (!([c].all isd)) = _
  simp
theorem sift_sgn (z : Str) : ((LC.sgn z).filter noDig).isEmpty = (tl z).all isd := by
  unfold LC.sgn
  show (((tl z).map fun c => V.str ⟨#[c]⟩).filter noDig).isEmpty = _
  generalize tl z = l
  induction l with
  | nil => rfl
  | cons c r ih =>
    rw [List.map_cons, List.all_cons]
    cases hc : isd c with
    | true =>
      rw [List.filter_cons_of_neg (by rw [noDig_one, hc]; decide), Bool.true_and]
      exact ih
    | false =>
      rw [List.filter_cons_of_pos (by rw [noDig_one, hc]; rfl), Bool.false_and]
      rfl
/-- signs as data -/
def dS (v : V) : PyData := match v with
  | .str z => .str z
  | _ => .none
theorem sgn_str {z : Str} {v : V} (h : v ∈ LC.sgn z) : ∃ c ∈ tl z, v = .str ⟨#[c]⟩ := by
  obtain ⟨c, hc, rfl⟩ := List.mem_map.mp h
  exact ⟨c, hc, rfl⟩
theorem strs_dp {K : PySem.W.Frag} {H : Hp} : ∀ xs : List V, (∀ x ∈ xs, ∃ z, x = .str z) → DpAll K H xs (xs.map dS)
  | [], _ => .nil
  | x :: xs, h => by
    obtain ⟨z, rfl⟩ := h x List.mem_cons_self
    exact .cons (.str z) (strs_dp xs fun y hy => h y (List.mem_cons_of_mem _ hy))
theorem strs_lay : ∀ xs : List V, (∀ x ∈ xs, ∃ z, x = .str z ∧ PyData.strOk z = true) → PyData.canLayAll0 (xs.map dS) = true
  | [], _ => by simp only [List.map_nil, PyData.canLayAll0]
  | x :: xs, h => by
    obtain ⟨z, rfl, hz⟩ := h x List.mem_cons_self
    simp only [List.map_cons, PyData.canLayAll0, dS, PyData.canLay0, hz, Bool.true_and]
    exact strs_lay xs fun y hy => h y (List.mem_cons_of_mem _ hy)
theorem strs_shaped {xs : List V} (h : ∀ x ∈ xs, ∃ z, x = .str z ∧ PyData.strOk z = true) : SeqAt.shaped (.list (xs.map dS)) = true := by
  unfold SeqAt.shaped
  have d : (PyData.list (xs.map dS)).depth ≤ 1 := depth_list (k := 0) fun y hy => by
    obtain ⟨x, hx, rfl⟩ := List.mem_map.mp hy
    obtain ⟨z, rfl, _⟩ := h x hx
    simp [dS, PyData.depth]
  rw [show (PyData.list (xs.map dS)).canLay0 = true from by simp only [PyData.canLay0]; exact strs_lay xs h, decide_eq_true (show (PyData.list (xs.map dS)).depth ≤ 64 by omega)]
  rfl
theorem nil_shaped : SeqAt.shaped (.list []) = true := strs_shaped (xs := []) fun _ z => (nomatch z)
theorem strs_empty (xs : List V) : (!PyData.eqv (.list (xs.map dS)) (.list [])) = !xs.isEmpty := by
  cases xs <;> simp [PyData.eqv, PyData.eqvAll]
theorem asc_ok {z : Str} (h : Asc z) : PyData.strOk z = true := by
  unfold PyData.strOk
  rw [Array.all_eq_true']
  intro c hc
  have := h c (Array.mem_toList_iff.mpr hc)
  simp only [decide_eq_true_eq]
  omega
def spNum : Sp := fun vs H Q _ => ∃ z : Str, vs = [.str z] ∧ z.length ≤ 1000 ∧ Asc z ∧ ∀ H', Same H H' → Q (.bl (fig (tl z))) H'
theorem ok_num {f : Addr} {fd : FuncData} {k : Nat} (F : Fun K "_law_is_number" "_law_is_number" sNum f fd) (ml : mg "len" = none) : FnOk P w K mg base CX0 (k + 1) f fd ["_law_word"] spNum := by
  refine F.ok scNum (fun vs H Q E h => ?_) (fun cdv A outer s H vs Q E hr h => ?_)
  · obtain ⟨z, rfl, _⟩ := h
    rfl
  obtain ⟨z, rfl, hz, ha, q⟩ := h
  have nd := scNum.nd
  refine ⟨_, pss_cons (ps_if (PW.pt (pw_or (pt_not (pt_chain op_le op_le pe_int (pe_callB call_len_str (by rfl) ml PySem.boot_len (pa_cons (pv 0) pa_nil)) pe_int))
      (pw_or1 (pt_cmpR (op_neD hr.units) (pe_lc (own := [("_law_sign", 1)]) (g := gName 1) (by rfl) nd (pi_str (pv 0))
          (blkOk_by (N := ["_law_word", "_law_sign"]) (sc := defScope sNum) (by decide +kernel)) (fun _ _ _ _ _ => pg_name (i := 1) nd rfl (.inl rfl)) (fun _ _ _ _ _ => pts_one (pt_cmpR op_notIn_sign (pv 1) pe_str rfl))
          (fun _ _ _ _ _ => pv 1)) (pe_lst pa_nil) (nomark _)))))
      (pss_one (ps_ret pe_bl)) pss_nil)
    (pss_one (ps_ret (pe_or (pe_cmpR op_ne (pe_item_str (pv 0) pe_int (fun _ _ => rfl)) pe_str (nomark _)) (pe_one (pe_cmpR op_eq (pv 0) pe_str (nomark _)))))), ?_⟩
  have hl := len_tl z
  have fl := fig_law (l := tl z)
  have q0 := q H (Same.refl H)
  refine ⟨_, rfl, z, rfl, small_line (by omega), _, _, rfl, rfl, _, rfl, ite2 (fun e => ?_) (fun e => ?_)⟩
  · refine ⟨_, _, rfl, rfl, _, rfl, ite2 (fun e2 => iteT ?_) (fun e2 => ?_)⟩
    · have a : ¬ (tl z).length ≤ 4 := fun x => by
        have y : decide (((z.length : Nat) : Int) ≤ 4) = true := decide_eq_true (by omega)
        rw [y] at e2
        cases e2
      rw [fig_no2 a] at q0
      exact q0
    have h1 : decide (1 ≤ (tl z).length) = true := decide_eq_true (by have := of_decide_eq_true e; omega)
    have h4 : decide ((tl z).length ≤ 4) = true := by
      rw [decide_eq_true_eq]
      cases y : decide (((z.length : Nat) : Int) ≤ 4) with
      | true => have := of_decide_eq_true y; omega
      | false => rw [y] at e2; exact absurd rfl e2
    rw [h1, h4, Bool.true_and, Bool.true_and] at fl
    refine ⟨_, rfl, z, rfl, fun D nD => LC.lc_sift (LC.walk_sgn z) (fun _ _ => trivial) ?_ nD noDig (fun x H2 R mx s2 fin => ⟨rfl, ?_⟩) (fun H2 s2 hD => ?_)⟩
    · unfold LC.sgn
      rw [List.length_map]
      show (tl z).length ≤ 100000
      omega
    · obtain ⟨c, hc, rfl⟩ := sgn_str mx
      have e9 : (!decide (c ∈ ("0123456789" : Str).cps.toList)) = noDig (.str ⟨#[c]⟩) := by
        rw [noDig_one, ← dig_in]
      exact ⟨_, rfl, c, _, rfl, rfl, _, rfl, Eq.mpr (congrArg (fun b => R _ b H2) e9) (fin _ H2 (Same.refl H2) fun Q' h => ⟨_, rfl, h⟩)⟩
    refine ⟨Nat.zero_le _, fun l nl => ?_⟩
    have mem : ∀ x ∈ (LC.sgn z).filter noDig, ∃ u, x = .str u ∧ PyData.strOk u = true := fun x hx => by
      obtain ⟨c, hc, rfl⟩ := sgn_str (List.mem_filter.mp hx).1
      exact ⟨_, rfl, asc_ok fun d hd => by
        rw [List.mem_singleton.mp (show d ∈ [c] from hd)]
        exact ha c hc⟩
    have s3 : Same H2 (upd H2 l (.lst [])) := same_new nl
    refine ⟨_, _, .lst (SqL.of (s3 _ _ hD)) (strs_dp _ fun x hx => by obtain ⟨u, e, _⟩ := mem x hx; exact ⟨u, e⟩), .lst (SqL.of upd_same) .nil, strs_shaped mem, nil_shaped, _, rfl, ?_⟩
    rw [strs_empty, sift_sgn]
    have q1 := q _ (s2.trans s3)
    generalize upd H2 l (.lst []) = H3 at q1 ⊢
    refine ite2 (fun e3 => ?_) (fun e3 => ?_)
    · rw [fl, show (tl z).all isd = false by simpa using e3, if_neg Bool.false_ne_true] at q1
      exact q1
    · have ed : (tl z).all isd = true := by simpa using e3
      rw [fl, ed, if_pos rfl] at q1
      have ne : tl z ≠ [] := fun x => by
        rw [x] at h1
        cases h1
      obtain ⟨c, r, hc⟩ : ∃ c r, tl z = c :: r := List.exists_cons_of_ne_nil ne
      have hg : z.cps[0]? = some c := by
        rw [← Array.getElem?_toList]
        show (tl z)[0]? = _
        rw [hc]
        rfl
      have hp := List.length_pos_iff.mpr ne
      refine ⟨_, rfl, z, 0, c, rfl, rfl, by decide, by decide, by omega, hg, rfl, _, rfl, ?_⟩
      have d : (!decide (V.str ⟨#[c]⟩ = V.str "0")) = !decide ((tl z).head? = some 48) := by
        rw [decide_eq_decide.mpr]
        rw [hc]
        constructor
        · intro x
          have y := congrArg tl (V.str.inj x)
          rw [tl_zero] at y
          have y2 : [c] = [48] := y
          cases y2
          rfl
        · intro x
          cases x
          exact congrArg V.str (ext_tl tl_zero.symm)
      rw [d]
      refine ite2 (fun e4 => ?_) (fun e4 => ⟨_, rfl, rfl, ?_⟩)
      · rw [e4, Bool.true_or] at q1
        exact q1
      · rw [Bool.eq_false_iff.mpr e4, Bool.false_or] at q1
        have d2 : decide (V.str z = V.str "0") = decide (tl z = [48]) := by
          rw [decide_eq_decide]
          constructor
          · intro x
            rw [V.str.inj x]
            exact tl_zero
          · intro x
            exact congrArg V.str (ext_tl (x.trans tl_zero.symm))
        show Q (.bl (decide (V.str z = V.str "0"))) H3
        rw [d2]
        exact q1
  · refine ⟨_, rfl, iteT ?_⟩
    have h1 : decide (1 ≤ (tl z).length) = false := by
      rw [decide_eq_false_iff_not]
      intro x
      exact e (decide_eq_true (by omega))
    rw [fl, h1, Bool.false_and, Bool.false_and, if_neg Bool.false_ne_true] at q0
    exact q0
end
end K50

set_option maxHeartbeats 4000000
namespace K50
open PySem PySem.Spec PyProof.Rows L2 TL G3 G4 M0 EE
abbrev nRead : List Str := ["text", "run", "rows", "number", "row", "words", "word"]
theorem scRead : FnScope nRead ["text"] (defScope sRead) := ⟨rfl, rfl, rfl, by decide +kernel, rfl, by decide +kernel, by decide +kernel⟩
theorem for_enum {K : PySem.W.Frag} {a : Addr} {xs : List V} {g : TG} {tb : TS} {D : Ends} {σ : L2.St} {H : Hp} (Pv : Nat → L2.St → Hp → Prop) (h0 : Pv 0 σ H) (hl : ∀ i σ H, Pv i σ H → SqL K H a xs)
    (hs : ∀ (i : Nat) (x : V) (T : Addr) (σ : L2.St) (H : Hp), xs[i]? = some x → Pv i σ H → H T = none → g (.ref T) σ (upd H T (.tup [.int (i : Nat), x])) fun σ2 H2 => tb { D with nx := Pv (i + 1), ct := Pv (i + 1), bk := D.nx } σ2 H2) (hd : ∀ σ H, Pv xs.length σ H → D.nx σ H) :
    ∃ W : Nat → Nat → L2.St → Hp → Prop, (∃ m, W 0 m σ H) ∧ ∀ i m σ H, W i m σ H →
      ((Ite K a).stop i H ∧ D.nx σ H) ∨ ((Ite K a).go i H ∧ ∃ N : L2.St → Hp → Prop, (∀ σ' H', N σ' H' → ∃ m', m' < m ∧ W (i + 1) m' σ' H') ∧ ∀ x H', (Ite K a).yld i H x H' → g x σ H' fun σ2 H2 => tb { D with nx := N, ct := N, bk := D.nx } σ2 H2) := by
  refine for_it (walk_enum (K := K) (a := a) (xs := xs)) Pv h0 (fun i σ H _ h => hl i σ H h) (fun i x σ H H' hi h y => ?_) hd
  obtain ⟨T, u, v, rfl, hT, rfl, eu, ev⟩ := y
  cases eu
  exact hs i v T σ H ev h hT
/-! texts that are asked about -/
structure TxtOk (t : Str) : Prop where
  len : t.length ≤ 300
  asc : Asc t
theorem spl_mem (S : List Nat) : ∀ (l : List Nat) (k : Nat) (acc : List Nat), ∀ p ∈ spl S k acc l, ∀ c ∈ p, c ∈ acc ∨ c ∈ l
  | [], k, acc, p, hp, c, hc => by
    rw [spl_nil] at hp
    rw [List.mem_singleton.mp hp] at hc
    exact .inl hc
  | d :: r, 0, acc, p, hp, c, hc => by
    by_cases h : pre S (d :: r) = true
    · rw [spl_hit h] at hp
      rcases List.mem_cons.mp hp with rfl | hp
      · exact .inl hc
      · rcases spl_mem S r (S.length - 1) [] p hp c hc with z | z
        · cases z
        · exact .inr (List.mem_cons_of_mem _ z)
    · rw [spl_miss (by simpa using h)] at hp
      rcases spl_mem S r 0 (acc ++ [d]) p hp c hc with z | z
      · rcases List.mem_append.mp z with z | z
        · exact .inl z
        · rw [List.mem_singleton.mp z]
          exact .inr List.mem_cons_self
      · exact .inr (List.mem_cons_of_mem _ z)
  | d :: r, k + 1, acc, p, hp, c, hc => by
    rcases spl_mem S r k acc p hp c hc with z | z
    · exact .inl z
    · exact .inr (List.mem_cons_of_mem _ z)
theorem ws_asc {row : Str} (h : Asc row) : ∀ z ∈ ws row, Asc z := fun z hz c hc => by
  have hm : tl z ∈ (Txt.split row " ").map tl := List.mem_map_of_mem hz
  rw [split_sp] at hm
  rcases spl_mem _ _ _ _ _ hm c hc with y | y
  · cases y
  · exact h c y
theorem rows_asc {t : Str} (h : Asc t) : ∀ row ∈ rowsOf t, Asc row := fun z hz c hc => by
  unfold rowsOf at hz
  split at hz
  · cases hz
  have hm : tl z ∈ (Txt.split t "\n").map tl := List.mem_map_of_mem hz
  rw [split_nl] at hm
  rcases spl_mem _ _ _ _ _ hm c hc with y | y
  · cases y
  · exact h c y
theorem words_of {K : PySem.W.Frag} {H : Hp} {p : Addr} {t row : Str} (ht : TxtOk t) (hm : row ∈ rowsOf t) (h : H p = some (.lst ((ws row).map V.str))) : Words K H p (ws row) := by
  have h1 := rows_part hm
  have h2 := ws_len row
  have h3 := ht.len
  exact ⟨SqL.of h, by omega, fun z hz => ⟨by have := ws_part hz; omega, ws_asc (rows_asc ht.asc row hm) z hz⟩⟩
def isStr : PyData → Bool
  | .str _ => true
  | _ => false
theorem kit_str (K : PySem.W.Frag) {v : V} {H : Hp} {d : PyData} (h : Dp K H v d) : PySem.W.kitOne K (.type (tyName d)) (.type "str") = some (isStr d) := by
  cases h <;> kernel_rfl
/-- the first row that is none -/
def BadAt (rows : List Str) (i : Nat) : Prop := (∀ j row, j < i → rows[j]? = some row → rowOk row = true) ∧ ∃ row, rows[i]? = some row ∧ rowOk row = false
def chV (v : V) : V := match v with
  | .str z => chOf z
  | _ => .non
theorem chV_map (r : List Str) : (r.map V.str).map chV = r.map chOf := by
  rw [List.map_map]
  rfl
theorem len_eq0 (t : Str) : (((t.length : Nat) : Int) != 0) = !decide (t = "") := by
  have e : t = "" ↔ t.length = 0 := by
    rw [eq_tl, tl_empty, len_tl, List.length_eq_zero_iff]
  by_cases h : t = ""
  · rw [decide_eq_true h, e.mp h]
    rfl
  · rw [decide_eq_false h]
    have : t.length ≠ 0 := fun z => h (e.mpr z)
    simp only [Bool.not_false, bne_iff_ne, ne_eq]
    omega
/-- one row read in a heap -/
theorem take_next {α : Type} {l : List α} {i : Nat} {x : α} (h : l[i]? = some x) : l.take (i + 1) = l.take i ++ [x] := by
  rw [List.take_succ, h]
  rfl
section
variable {P : Program} {w : World} {K : PySem.W.Frag} {mg : Str → Option Value} {base : Heap}
def spRead (K : PySem.W.Frag) (C : Addr) : Sp := fun vs H Q E => ∃ v, vs = [v] ∧
  ((∃ d, Dp K H v d ∧ isStr d = false ∧ ∀ dd H', H dd = none → Same H H' → H' dd = some (.xd [("row", .int 0)]) → E (.ref C) (some dd) H') ∨
   ∃ t, v = .str t ∧ TxtOk t ∧ ((∀ row ∈ rowsOf t, rowOk row = true) → ∀ H' p us, Same H H' → H p = none → RaceAt H' p us ((rowsOf t).map turnOf) → New H p us → Q (.ref p) H') ∧
     ∀ i : Nat, BadAt (rowsOf t) i → ∀ dd H', H dd = none → Same H H' → H' dd = some (.xd [("row", .int (i : Nat))]) → E (.ref C) (some dd) H')
theorem ok_read {f : Addr} {fd : FuncData} (F : Fun K "read_run" "read_run" sRead f fd) (S : Err P w K mg base "NoText" ["row"]) (T : Def P w K mg base CX0 2 "is_turn_row" ["words"] (spTurn K))
    (mi : mg "isinstance" = none) (ms : mg "str" = none) (me : mg "enumerate" = none) (mn : mg "int" = none) : FnOk P w K mg base (L2.CX P w) 3 f fd ["text"] (spRead K S.C) := by
  refine F.okX scRead (fun vs H Q E h => ?_) (fun cdv A outer s H vs Q E hr h => ?_)
  · obtain ⟨v, rfl, _⟩ := h
    rfl
  obtain ⟨v, rfl, h⟩ := h
  have nd := scRead.nd
  refine ⟨_, pss_cons (ps_if (pt_not (pt_val (pe_callB call_isi (by rfl) mi PyProof.Rows.boot_isinstance (pa_cons (pv 0) (pa_cons (pe_bltn (by rfl) ms (u := .type "str") (by decide +kernel) (show RelV (.ty "str") (.type "str") from rfl)) pa_nil)))))
      (pss_one (ps_raiseN rfl (takes_of rfl rfl rfl rfl) S hr (by rfl) (pa_cons pe_int pa_nil))) pss_nil)
    (pss_cons (ps_set (i := 1) nd rfl (.inl rfl) (pe_lst pa_nil))
    (pss_cons (ps_set (i := 2) nd rfl (.inl rfl) (pe_ifExp (pt_truth (pv 0) (fun _ => rfl)) (pe_split (pv 0) pe_str) (pe_lst pa_nil)))
    (pss_cons (ps_for (passes_of rfl) rfl (pi_enum (by rfl) me (pa_cons (pv 2) pa_nil)) (pg_tup rfl (pgs_cons (pg_name (i := 3) nd rfl (.inl rfl)) (pgs_cons (pg_name (i := 4) nd rfl (.inl rfl)) pgs_nil)))
      (pss_cons (ps_set (i := 5) nd rfl (.inl rfl) (pe_split (pv 4) pe_str))
      (pss_cons (ps_if (pt_not (pt_val (pe_call T.ok hr (by rfl) T.g T.kp T.b .nil pass0 (pa_cons (pv 5) pa_nil))))
        (pss_one (ps_raiseN rfl (takes_of rfl rfl rfl rfl) S hr (by rfl) (pa_cons (pv 3) pa_nil))) pss_nil)
      (pss_one (ps_expr (pe_bm PySem.F.plainAttrs_list PySem.F.slot_list_append PySem.F.type_list_append mt_append (pv 1) (pa_cons (pe_tup
        (pa_cons (pe_callTy call_int_str (by rfl) mn (by decide +kernel) (pa_cons (pe_slice sl_str (pe_ix ix_list (pv 5) pe_int (fun _ _ => rfl)) po_none (po_some (pe_un un_neg pe_int))) pa_nil))
        (pa_cons (pe_lc (own := [("word", 6)]) (g := gName 6) (tt := tYes) (by rfl) nd (pi_list (pe_slice sl_list (pv 5) (po_some pe_int) po_none))
          (blkOk_by (N := nRead) (sc := defScope sRead) (by decide +kernel)) (fun _ _ _ _ _ => pg_name (i := 6) nd rfl (.inl rfl)) (fun _ _ _ _ _ => pts_nil)
          (fun _ _ _ _ _ => pe_ifExp (pt_cmpR op_eq (pv 6) pe_str (nomark _)) pe_non (pe_callTy call_int_str (by rfl) mn (by decide +kernel) (pa_cons (pv 6) pa_nil)))) pa_nil))) pa_nil)))))))
    (pss_one (ps_ret (pv 1)))))), ?_⟩
  rcases h with ⟨d, hd, nos, q⟩ | ⟨t, rfl, ht, good, bad⟩
  · refine ⟨_, rfl, _, _, _, _, _, rfl, .ty "str", dp_ty hd, kit_str K hd, _, rfl, ?_⟩
    rw [nos]
    exact iteT ⟨by show 1 ≤ 1000; decide, rfl, by simp [E9.names], fun dd H' n1 s1 h1 => q dd H' n1 s1 h1⟩
  refine ⟨_, rfl, _, _, _, _, _, rfl, .ty "str", dp_ty (K := K) (H := H) (.str t), kit_str K (H := H) (.str t), _, rfl, ?_⟩
  refine iteF ⟨Nat.zero_le _, fun o no => ?_⟩
  have s1 : Same H (upd H o (.lst [])) := same_new no
  have hl3 := ht.len
  have sz : t.length + 2 ≤ sizeLine := Nat.le_trans (by omega : t.length + 2 ≤ 1000) (by decide)
  have key : ∀ KK : VK, (∀ ra, (upd H o (.lst [])) ra = none → KK (.ref ra) (upd (upd H o (.lst [])) ra (.lst ((rowsOf t).map V.str)))) →
      (if (((t.length : Nat) : Int) != 0) = true then tM1 (fun x xs H Q => ∃ a b, x = V.str a ∧ xs = [V.str b] ∧ (b.length == 0) = false ∧ a.length + 2 ≤ sizeLine ∧ rNewStrs (Txt.split a b) H Q) (tVar 0) (tC (V.str "\n")) (List.set (L2.start nRead [V.str t]) 1 (some (V.ref o))) (upd H o (.lst [])) KK
        else tLst tNil (List.set (L2.start nRead [V.str t]) 1 (some (V.ref o))) (upd H o (.lst [])) KK) := fun KK k => by
    rw [len_eq0]
    unfold rowsOf at k
    refine ite2 (fun e => ?_) (fun e => ?_)
    · have e1 : ¬ t = "" := by simpa using e
      rw [if_neg e1] at k
      exact ⟨_, rfl, ⟨t, rfl⟩, t, _, rfl, rfl, by decide +kernel, sz, k⟩
    · have e1 : t = "" := by simpa using e
      rw [if_pos e1] at k
      exact ⟨Nat.zero_le _, k⟩
  refine ⟨_, rfl, _, ⟨small_line (by omega), rfl⟩, key _ fun ra nra => ?_⟩
  have ner : ra ≠ o := fun e => by
    rw [e, upd_same] at nra
    cases nra
  have nrH : H ra = none := by
    rw [upd_ne ner] at nra
    exact nra
  have hlen := rows_len t
  refine ⟨_, rfl, ra, _, rfl, SqL.of upd_same, for_enum (xs := (rowsOf t).map V.str)
    (fun i σ H3 => ∃ y3 y4 y5 y6 us, σ = [some (.str t), some (.ref o), some (.ref ra), y3, y4, y5, y6] ∧ Same H H3 ∧ H3 ra = some (.lst ((rowsOf t).map V.str)) ∧ (∀ j row, j < i → (rowsOf t)[j]? = some row → rowOk row = true) ∧ RaceAt H3 o us (((rowsOf t).take i).map turnOf) ∧ New H o us)
    ⟨none, none, none, none, [], rfl, same_put s1 nrH, upd_same, fun j row hj => absurd hj (Nat.not_lt_zero j), ⟨by rw [upd_ne ner.symm]; exact upd_same, .nil⟩, fun _ z => (nomatch z)⟩ (fun i σ H3 hP => ?_) (fun i x TT σ H3 hx hP nT => ?_) (fun σ H3 hP => ?_)⟩
  · obtain ⟨_, _, _, _, _, _, _, h, _⟩ := hP
    exact SqL.of h
  · obtain ⟨y3, y4, y5, y6, us, rfl, sm, hra, ok, ⟨ho, hT⟩, hN⟩ := hP
    rw [List.getElem?_map] at hx
    obtain ⟨row, hrow, rfl⟩ := Option.map_eq_some_iff.mp hx
    have hmem := List.mem_of_getElem? hrow
    have hi : i < (rowsOf t).length := (List.getElem?_eq_some_iff.mp hrow).1
    have hrl := rows_part hmem
    have s4 : Same H3 (upd H3 TT (.tup [.int (i : Nat), .str row])) := same_new nT
    refine ⟨TT, _, rfl, SqT.of upd_same, rfl, _, _, rfl, _, _, rfl, rfl, ?_⟩
    generalize upd H3 TT (.tup [.int (i : Nat), .str row]) = H4 at s4 ⊢
    refine ⟨_, rfl, ⟨row, rfl⟩, row, _, rfl, rfl, by decide +kernel, Nat.le_trans (by omega : row.length + 2 ≤ 1000) (by decide), fun p np => ?_⟩
    have s5 : Same H4 (upd H4 p (.lst ((Txt.split row " ").map V.str))) := same_new np
    have hp5 : (upd H4 p (.lst ((Txt.split row " ").map V.str))) p = some (.lst ((ws row).map V.str)) := upd_same
    have hW := words_of (K := K) ht hmem hp5
    generalize upd H4 p (.lst ((Txt.split row " ").map V.str)) = H5 at s5 hp5 hW ⊢
    refine ⟨_, rfl, p, ws row, rfl, hW, fun H6 s6 => ⟨_, rfl, ite2 (fun e => ?_) (fun e => ?_)⟩⟩
    · refine ⟨_, rfl, by show 1 ≤ 1000; decide, rfl, by simp [E9.names], fun dd H' n1 s7 h7 => ?_⟩
      have sH : Same H H6 := sm.trans (s4.trans (s5.trans s6))
      exact bad i ⟨ok, row, hrow, show okWs (ws row) = false by simpa using e⟩ dd H' (same_none sH n1) (sH.trans s7) h7
    have eok : rowOk row = true := show okWs (ws row) = true by simpa using e
    obtain ⟨hd, r, ew, hf, ha⟩ := okWs_parts eok
    have et : turnOf row = (num (tl hd).dropLast, r.map chOf) := by
      unfold turnOf
      rw [ew]
      rfl
    have s46 : Same H3 H6 := s4.trans (s5.trans s6)
    have hp6 := s6 _ _ hp5
    rw [ew] at hp6
    have hW6 := hW.same s6
    rw [ew] at hW6
    have hdl : hd.length ≤ 1000 := (hW6.2.2 hd List.mem_cons_self).1
    have ho6 := s46 _ _ ho
    refine ⟨_, rfl, .inl ⟨rfl, _, SqL.of ho6⟩, _, rfl, p, _, 0, _, rfl, rfl, SqL.of hp6, at0, ?_⟩
    dsimp only [tNoPart]
    refine ⟨1, rfl, -1, rfl, hd, rfl, small_line (by omega), _, num (tl hd).dropLast, rfl, ?_, ?_, ?_⟩
    · rw [cut_but]
      exact (fig_int hf).1
    · rw [cut_but]
      exact (fig_int hf).2
    refine ⟨_, rfl, 1, rfl, p, _, rfl, SqL.of hp6, fun b nb => ⟨b, rfl, ⟨_, SqL.of upd_same⟩, fun L nL => ?_⟩⟩
    have s7 : Same H6 (upd H6 b (.lst (cutV ((hd :: r).map V.str) (some 1) none))) := same_new nb
    have hb : SqL K (upd H6 b (.lst (cutV ((hd :: r).map V.str) (some 1) none))) b (r.map V.str) := by
      rw [cutV_tail]
      exact SqL.of upd_same
    refine LC.lc_map (walk_list (a := b) (xs := r.map V.str) (K := K)) (fun H' s' => s'.seq hb) ?_ nL chV (fun x H7 R mx s8 fin => ⟨rfl, ?_⟩) (fun H7 s8 hL => ?_)
    · have := hW6.2.1
      rw [List.length_map]
      simp only [List.length_cons] at this
      omega
    · obtain ⟨z, mz, rfl⟩ := List.mem_map.mp mx
      have y := fin H7 (Same.refl H7)
      have y2 : R (chOf z) H7 := y
      unfold chOf at y2
      refine ⟨_, rfl, rfl, _, rfl, ite2 (fun e4 => ?_) (fun e4 => ?_)⟩
      · have d : dash z = true := by
          unfold dash
          rw [V.str.inj (of_decide_eq_true e4)]
          rfl
        rw [if_pos d] at y2
        exact y2
      · have d : dash z = false := by
          unfold dash
          rw [decide_eq_false_iff_not]
          intro x
          exact e4 (decide_eq_true (congrArg V.str x))
        have hz := ha z mz
        rw [d, Bool.false_or] at hz
        rw [if_neg (by rw [d]; exact Bool.false_ne_true)] at y2
        have fi := fig_int hz
        rw [mk_tl] at fi
        exact ⟨_, rfl, z, _, rfl, fi.1, fi.2, y2⟩
    · rw [chV_map] at hL
      refine ⟨by show 2 ≤ sizeLine; decide, fun tp ntp => ?_⟩
      have s9 : Same H3 H7 := s46.trans (s7.trans s8)
      have ho7 := s9 _ _ ho
      have nLH : H L = none := same_none (sm.trans (s46.trans s7)) nL
      have ntH : H tp = none := same_none (sm.trans s9) ntp
      have hoL : o ≠ L := ne_of_none (s46.trans s7 _ _ ho) nL
      have hot : o ≠ tp := ne_of_none ho7 ntp
      have hLt : L ≠ tp := ne_of_none hL ntp
      have s10 : Same H7 (upd H7 tp (.tup [.int (num (tl hd).dropLast), .ref L])) := same_new ntp
      have ho8 := s10 _ _ ho7
      have hT8 := (hT.same s9).same s10
      have hra8 := s10 _ _ (s9 _ _ hra)
      have htp : (upd H7 tp (.tup [.int (num (tl hd).dropLast), .ref L])) tp = some (.tup [.int (num (tl hd).dropLast), .ref L]) := upd_same
      have hL8 := s10 _ _ hL
      have sm8 : Same H (upd H7 tp (.tup [.int (num (tl hd).dropLast), .ref L])) := sm.trans (s9.trans s10)
      generalize upd H7 tp (.tup [.int (num (tl hd).dropLast), .ref L]) = H8 at s10 ho8 hT8 hra8 htp hL8 sm8 ⊢
      have hul : us.length ≤ 1000 := by
        rw [hT.len, List.length_map, List.length_take]
        omega
      refine ⟨o, _, _, rfl, rfl, ho8, ?_, _, _, _, _, us ++ [(tp, L)], rfl, same_put sm8 no, ?_, fun j row' hj hr' => ?_, ⟨?_, ?_⟩, ?_⟩
      · rw [List.length_map]
        exact LC.small_line (by omega)
      · rw [upd_ne ner]
        exact hra8
      · by_cases ej : j = i
        · rw [ej, hrow] at hr'
          cases hr'
          exact eok
        · exact ok j row' (by omega) hr'
      · rw [map_snoc]
        exact upd_same
      · rw [take_next hrow, List.map_append, List.map_cons, List.map_nil, et]
        have hT9 : Tns H8 (us ++ [(tp, L)]) (((rowsOf t).take i).map turnOf ++ [(num (tl hd).dropLast, r.map chOf)]) := Tns.snoc (t := (tp, L)) (r := (num (tl hd).dropLast, r.map chOf)) htp hL8 hT8
        refine hT9.put ho8 fun z hz => ?_
        rcases List.mem_append.mp hz with m | m
        · exact (hN z m).2.2
        · rw [List.mem_singleton.mp m]
          exact hoL.symm
      · intro z hz
        rcases List.mem_append.mp hz with m | m
        · exact hN z m
        · rw [List.mem_singleton.mp m]
          exact ⟨ntH, nLH, hoL.symm⟩
  · obtain ⟨y3, y4, y5, y6, us, rfl, sm, hra, ok, hR, hN⟩ := hP
    have el : (rowsOf t).take ((rowsOf t).map V.str).length = rowsOf t := List.take_of_length_le (by rw [List.length_map]; exact Nat.le_refl _)
    rw [el] at hR
    refine ⟨_, rfl, good (fun row hm => ?_) H3 o us sm no hR hN⟩
    obtain ⟨j, hj, e⟩ := List.getElem_of_mem hm
    exact ok j row (by rw [List.length_map]; exact hj) (by rw [List.getElem?_eq_getElem hj, e])
end
end K50

set_option maxHeartbeats 4000000
namespace K50
open PySem PySem.Spec PyProof.Rows L2 TL G3 G4 M0 EE
abbrev nDue : List Str := ["_law_line", "_law_found", "_law_at", "_law_row", "_law_words", "_law_word"]
theorem scDue : FnScope nDue ["_law_line"] (defScope sDue) := ⟨rfl, rfl, rfl, by decide +kernel, rfl, by decide +kernel, by decide +kernel⟩
def odd (v : V) : Bool := match v with
  | .str z => !(dash z || fig (tl z))
  | _ => true
theorem odd_none (r : List Str) : ((r.map V.str).filter odd).isEmpty = r.all fun z => dash z || fig (tl z) := by
  induction r with
  | nil => rfl
  | cons z r ih =>
    rw [List.map_cons, List.all_cons]
    cases h : (dash z || fig (tl z)) with
    | true =>
      rw [List.filter_cons_of_neg (by show ¬ (!(dash z || fig (tl z))) = true; rw [h]; decide), Bool.true_and]
      exact ih
    | false =>
      rw [List.filter_cons_of_pos (by show (!(dash z || fig (tl z))) = true; rw [h]; rfl), Bool.false_and]
      rfl
theorem not_t {b : Bool} (h : (!b) = true) : b = false := by
  cases b
  · rfl
  · cases h
theorem not_f {b : Bool} (h : ¬ (!b) = true) : b = true := by
  cases b
  · exact absurd rfl h
  · rfl
theorem once {xs : List V} (b : Bool) : (List.replicate (if b then (1 : Int) else 0).toNat xs).flatten = if b then xs else [] := by
  cases b
  · rfl
  · show xs ++ [] = xs
    rw [List.append_nil]
theorem once_rows (t : Str) : (if (!decide (V.str t = V.str "")) then (Txt.split t "\n").map V.str else []) = (rowsOf t).map V.str := by
  unfold rowsOf
  by_cases h : t = ""
  · rw [if_pos h, decide_eq_true (congrArg V.str h)]
    rfl
  · rw [if_neg h, decide_eq_false fun z => h (V.str.inj z)]
    rfl
section
variable {P : Program} {w : World} {K : PySem.W.Frag} {mg : Str → Option Value} {base : Heap}
def spDue : Sp := fun vs H Q _ => ∃ t, vs = [.str t] ∧ TxtOk t ∧ ((∀ row ∈ rowsOf t, rowOk row = true) → ∀ H' p us, Same H H' → RaceAt H' p us ((rowsOf t).map turnOf) → Q (.ref p) H') ∧
     ∀ i : Nat, BadAt (rowsOf t) i → ∀ H', Same H H' → Q (.int (i : Nat)) H'
theorem ok_due {f : Addr} {fd : FuncData} (F : Fun K "_law_due" "_law_due" sDue f fd) (N : Def P w K mg base CX0 1 "_law_is_number" ["_law_word"] spNum)
    (mi : mg "isinstance" = none) (ms : mg "str" = none) (me : mg "enumerate" = none) (mn : mg "int" = none) (ml : mg "len" = none) : FnOk P w K mg base CX0 2 f fd ["_law_line"] spDue := by
  refine F.ok scDue (fun vs H Q E h => ?_) (fun cdv A outer s H vs Q E hr h => ?_)
  · obtain ⟨t, rfl, _⟩ := h
    rfl
  obtain ⟨t, rfl, ht, good, bad⟩ := h
  have nd := scDue.nd
  refine ⟨_, pss_cons (ps_if (pt_not (pt_val (pe_callB call_isi (by rfl) mi PyProof.Rows.boot_isinstance (pa_cons (pv 0) (pa_cons (pe_bltn (by rfl) ms (u := .type "str") (by decide +kernel) (show RelV (.ty "str") (.type "str") from rfl)) pa_nil)))))
      (pss_one (ps_ret pe_int)) pss_nil)
    (pss_cons (ps_set (i := 1) nd rfl (.inl rfl) (pe_lst pa_nil))
    (pss_cons (ps_for PassesOwn.never rfl (pi_enum (by rfl) me (pa_cons (pe_op op_rep (pe_split (pv 0) pe_str) (pe_callTy call_int1 (by rfl) mn (by decide +kernel) (pa_cons (pe_cmpR op_ne (pv 0) pe_str (nomark _)) pa_nil))) pa_nil)) (pg_tup rfl (pgs_cons (pg_name (i := 2) nd rfl (.inl rfl)) (pgs_cons (pg_name (i := 3) nd rfl (.inl rfl)) pgs_nil)))
      (pss_cons (ps_set (i := 4) nd rfl (.inl rfl) (pe_split (pv 3) pe_str))
      (pss_cons (ps_if (PW.pt (pw_or (pt_cmpR op_lt (pe_callB call_len_seq (by rfl) ml PySem.boot_len (pa_cons (pv 4) pa_nil)) pe_int (nomark _))
          (pw_or (pt_cmpR op_ne (pe_slice sl_str (pe_ix ix_list (pv 4) pe_int (fun _ _ => rfl)) (po_some (pe_un un_neg pe_int)) po_none) pe_str (nomark _))
          (pw_or1 (pt_not (pt_val (pe_call N.ok hr (by rfl) N.g N.kp N.b .nil pass0 (pa_cons (pe_slice sl_str (pe_ix ix_list (pv 4) pe_int (fun _ _ => rfl)) po_none (po_some (pe_un un_neg pe_int))) pa_nil))))))))
        (pss_one (ps_ret (pv 2))) pss_nil)
      (pss_cons (ps_if (pt_cmpR (op_neD hr.units) (pe_lc (own := [("_law_word", 5)]) (g := gName 5) (by rfl) nd (pi_list (pe_slice sl_list (pv 4) (po_some pe_int) po_none))
            (blkOk_by (N := nDue) (sc := defScope sDue) (by decide +kernel)) (fun _ _ _ _ _ => pg_name (i := 5) nd rfl (.inl rfl))
            (fun _ _ _ _ _ => pts_one (PW.pt (pw_and (pt_cmpR op_ne (pv 5) pe_str (nomark _)) (pw_and1 (pt_not (pt_val (pe_call N.ok hr (by rfl) N.g N.kp N.b .nil pass0 (pa_cons (pv 5) pa_nil))))))))
            (fun _ _ _ _ _ => pv 5)) (pe_lst pa_nil) (nomark _))
        (pss_one (ps_ret (pv 2))) pss_nil)
      (pss_one (ps_expr (pe_bm PySem.F.plainAttrs_list PySem.F.slot_list_append PySem.F.type_list_append mt_append (pv 1) (pa_cons (pe_tup
        (pa_cons (pe_callTy call_int_str (by rfl) mn (by decide +kernel) (pa_cons (pe_slice sl_str (pe_ix ix_list (pv 4) pe_int (fun _ _ => rfl)) po_none (po_some (pe_un un_neg pe_int))) pa_nil))
        (pa_cons (pe_lc (own := [("_law_word", 5)]) (g := gName 5) (tt := tYes) (by rfl) nd (pi_list (pe_slice sl_list (pv 4) (po_some pe_int) po_none))
          (blkOk_by (N := nDue) (sc := defScope sDue) (by decide +kernel)) (fun _ _ _ _ _ => pg_name (i := 5) nd rfl (.inl rfl)) (fun _ _ _ _ _ => pts_nil)
          (fun _ _ _ _ _ => pe_ifExp (pt_cmpR op_eq (pv 5) pe_str (nomark _)) pe_non (pe_callTy call_int_str (by rfl) mn (by decide +kernel) (pa_cons (pv 5) pa_nil)))) pa_nil))) pa_nil))))))))
    (pss_one (ps_ret (pv 1))))), ?_⟩
  have hl3 := ht.len
  have sz : t.length + 2 ≤ sizeLine := Nat.le_trans (by omega : t.length + 2 ≤ 1000) (by decide)
  refine ⟨_, rfl, _, _, _, _, _, rfl, .ty "str", dp_ty (K := K) (H := H) (.str t), kit_str K (H := H) (.str t), _, rfl, ?_⟩
  refine iteF ⟨Nat.zero_le _, fun o no => ?_⟩
  have s1 : Same H (upd H o (.lst [])) := same_new no
  refine ⟨_, rfl, ⟨t, rfl⟩, t, _, rfl, rfl, by decide +kernel, sz, fun sa nsa => ?_⟩
  refine ⟨_, rfl, rfl, .inr ⟨_, rfl, sa, _, _, rfl, rfl, upd_same, ?_, ?_, ?_, fun ra nra => ?_⟩⟩
  · split <;> decide
  · split <;> decide
  · have e1 := congrArg List.length (split_nl t)
    rw [List.length_map] at e1
    have e2 := spl_le [10] (tl t) 0 []
    have e3 := len_tl t
    rw [List.length_map]
    have e4 : (if (!decide (V.str t = V.str "")) = true then (1 : Int) else 0).toNat ≤ 1 := by split <;> decide
    have e5 : (Txt.split t "\n").length ≤ 301 := by omega
    exact Nat.le_trans (Nat.mul_le_mul e5 e4) (by decide)
  have nes : sa ≠ o := fun e => by
    rw [e, upd_same] at nsa
    cases nsa
  have nsH : H sa = none := by
    rw [upd_ne nes] at nsa
    exact nsa
  have s2 : Same H (upd (upd H o (.lst [])) sa (.lst ((Txt.split t "\n").map V.str))) := same_put s1 nsH
  have nrH : H ra = none := same_none s2 nra
  have ho2 : (upd (upd H o (.lst [])) sa (.lst ((Txt.split t "\n").map V.str))) o = some (.lst []) := by
    rw [upd_ne nes.symm]
    exact upd_same
  have ner : ra ≠ o := fun e => by
    rw [e, ho2] at nra
    cases nra
  have hlen := rows_len t
  have hra : ∀ G : Hp, (upd G ra (.lst (List.replicate (if (!decide (V.str t = V.str "")) = true then (1 : Int) else 0).toNat ((Txt.split t "\n").map V.str)).flatten)) ra = some (.lst ((rowsOf t).map V.str)) := fun G => by
    rw [upd_same, once, once_rows]
  refine ⟨ra, _, rfl, SqL.of (hra _), for_enum (xs := (rowsOf t).map V.str)
    (fun i σ H3 => ∃ y2 y3 y4 y5 us, σ = [some (.str t), some (.ref o), y2, y3, y4, y5] ∧ Same H H3 ∧ H3 ra = some (.lst ((rowsOf t).map V.str)) ∧ (∀ j row, j < i → (rowsOf t)[j]? = some row → rowOk row = true) ∧ RaceAt H3 o us (((rowsOf t).take i).map turnOf) ∧ New H o us)
    ⟨none, none, none, none, [], rfl, same_put s2 nrH, hra _, fun j row hj => absurd hj (Nat.not_lt_zero j), ⟨by rw [upd_ne ner.symm]; exact ho2, .nil⟩, fun _ z => (nomatch z)⟩ (fun i σ H3 hP => ?_) (fun i x TT σ H3 hx hP nT => ?_) (fun σ H3 hP => ?_)⟩
  · obtain ⟨_, _, _, _, _, _, _, h, _⟩ := hP
    exact SqL.of h
  · obtain ⟨y2, y3, y4, y5, us, rfl, sm, hra3, ok, ⟨ho, hT⟩, hN⟩ := hP
    rw [List.getElem?_map] at hx
    obtain ⟨row, hrow, rfl⟩ := Option.map_eq_some_iff.mp hx
    have hmem := List.mem_of_getElem? hrow
    have hi : i < (rowsOf t).length := (List.getElem?_eq_some_iff.mp hrow).1
    have hrl := rows_part hmem
    have s4 : Same H3 (upd H3 TT (.tup [.int (i : Nat), .str row])) := same_new nT
    refine ⟨TT, _, rfl, SqT.of upd_same, rfl, _, _, rfl, _, _, rfl, rfl, ?_⟩
    generalize upd H3 TT (.tup [.int (i : Nat), .str row]) = H4 at s4 ⊢
    refine ⟨_, rfl, ⟨row, rfl⟩, row, _, rfl, rfl, by decide +kernel, Nat.le_trans (by omega : row.length + 2 ≤ 1000) (by decide), fun p np => ?_⟩
    have s5 : Same H4 (upd H4 p (.lst ((Txt.split row " ").map V.str))) := same_new np
    have hp5 : (upd H4 p (.lst ((Txt.split row " ").map V.str))) p = some (.lst ((ws row).map V.str)) := upd_same
    have hW := words_of (K := K) ht hmem hp5
    generalize upd H4 p (.lst ((Txt.split row " ").map V.str)) = H5 at s5 hp5 hW ⊢
    have sH : Same H H5 := sm.trans (s4.trans s5)
    have out : okWs (ws row) = false → ∀ H', Same H5 H' → Q (.int (i : Nat)) H' := fun e H' s' => bad i ⟨ok, row, hrow, e⟩ H' (sH.trans s')
    generalize ew0 : ws row = wsl at hp5 hW out
    have hl : ((wsl.map V.str).length : Int) = wsl.length := by rw [List.length_map]
    refine ⟨_, rfl, p, _, rfl, .inl hW.1, _, _, rfl, rfl, _, rfl, ite2 (fun e => iteT ?_) (fun e => ?_)⟩
    · have e1 : wsl.length < 2 := by
        have := of_decide_eq_true e
        omega
      exact ⟨_, rfl, out (okWs_short e1) H5 (Same.refl H5)⟩
    have e1 : ¬ wsl.length < 2 := fun x => e (decide_eq_true (by omega))
    obtain ⟨hd, r, rest, rfl⟩ := two_of e1
    have hdl : hd.length ≤ 1000 := (hW.2.2 hd List.mem_cons_self).1
    have hda : Asc hd := (hW.2.2 hd List.mem_cons_self).2
    have ek : okWs (hd :: r :: rest) = (lastC (tl hd) && (fig (tl hd).dropLast && (r :: rest).all fun w => dash w || fig (tl w))) := rfl
    refine ⟨_, rfl, p, _, 0, _, rfl, rfl, SqL.of hp5, at0, 1, rfl, -1, rfl, ?_⟩
    dsimp only [tNoPart]
    refine ⟨hd, rfl, small_line (by omega), rfl, _, rfl, ?_⟩
    have el : (!decide (V.str (cutS hd (some (-1)) none) = V.str ":")) = !lastC (tl hd) := by
      rw [← last_colon]
      congr 1
      rw [decide_eq_decide]
      exact ⟨fun x => V.str.inj x, fun x => congrArg V.str x⟩
    rw [el]
    refine ite2 (fun e2 => iteT ?_) (fun e2 => ?_)
    · refine ⟨_, rfl, out ?_ H5 (Same.refl H5)⟩
      rw [ek, show lastC (tl hd) = false by simpa using e2, Bool.false_and]
    refine ⟨_, rfl, p, _, 0, _, rfl, rfl, SqL.of hp5, at0, ?_⟩
    dsimp only [tNoPart]
    refine ⟨1, rfl, -1, rfl, hd, rfl, small_line (by omega), cutS hd none (some (-1)), rfl, ?_, ?_, fun H6 s6 => ⟨_, rfl, ?_⟩⟩
    · have := cutS_length hd none (some (-1))
      omega
    · intro c hc
      rw [cut_but] at hc
      exact hda c (List.dropLast_subset _ hc)
    rw [cut_but]
    have hp6 := s6 _ _ hp5
    have hW6 := hW.same s6
    refine ite2 (fun e3 => ?_) (fun e3 => ?_)
    · refine ⟨_, rfl, out ?_ H6 s6⟩
      rw [ek, show fig (tl hd).dropLast = false from by simpa using e3, Bool.false_and, Bool.and_false]
    have hf : fig (tl hd).dropLast = true := by simpa using e3
    have eq2 : okWs (hd :: r :: rest) = (r :: rest).all fun w => dash w || fig (tl w) := by
      rw [ek, show lastC (tl hd) = true by simpa using e2, hf, Bool.true_and, Bool.true_and]
    -- the words behind
    refine ⟨_, rfl, 1, rfl, ?_⟩
    dsimp only [tNoPart]
    refine ⟨p, _, rfl, SqL.of hp6, fun b nb => ⟨b, rfl, ⟨_, SqL.of upd_same⟩, fun L nL => ?_⟩⟩
    have s7 : Same H6 (upd H6 b (.lst (cutV ((hd :: r :: rest).map V.str) (some 1) none))) := same_new nb
    have hb : SqL K (upd H6 b (.lst (cutV ((hd :: r :: rest).map V.str) (some 1) none))) b ((r :: rest).map V.str) := by
      rw [cutV_tail]
      exact SqL.of upd_same
    have hrl2 : ((r :: rest).map V.str).length ≤ 100000 := by
      have := hW6.2.1
      rw [List.length_map]
      simp only [List.length_cons] at this ⊢
      omega
    refine LC.lc_sift (walk_list (a := b) (xs := (r :: rest).map V.str) (K := K)) (fun H' s' => s'.seq hb) hrl2 nL odd (fun x H7 R mx s8 fin => ⟨rfl, ?_⟩) (fun H7 s8 hL => ?_)
    · obtain ⟨z, mz, rfl⟩ := List.mem_map.mp mx
      have hz := hW6.2.2 z (List.mem_cons_of_mem _ mz)
      refine ⟨_, rfl, rfl, _, rfl, ite2 (fun e4 => ?_) (fun e4 => ?_)⟩
      · have d : dash z = false := by
          unfold dash
          rw [decide_eq_false_iff_not]
          intro x
          rw [decide_eq_true (congrArg V.str x)] at e4
          cases e4
        have e9 : (!fig (tl z)) = odd (.str z) := by
          show _ = !(dash z || fig (tl z))
          rw [d, Bool.false_or]
        exact ⟨_, rfl, z, rfl, hz.1, hz.2, fun H8 s9 => ⟨_, rfl, Eq.mpr (congrArg (fun b => R _ b H8) e9) (fin _ H8 s9 fun Q' h => ⟨_, rfl, h⟩)⟩⟩
      · have d : dash z = true := by
          unfold dash
          rw [decide_eq_true_eq]
          cases y : decide (V.str z = V.str "-") with
          | true => exact V.str.inj (of_decide_eq_true y)
          | false => rw [y] at e4; exact absurd rfl e4
        have e9 : false = odd (.str z) := by
          show _ = !(dash z || fig (tl z))
          rw [d, Bool.true_or]
          rfl
        exact Eq.mpr (congrArg (fun b => R _ b H7) e9) (fin _ H7 (Same.refl H7) fun Q' h => ⟨_, rfl, h⟩)
    refine ⟨Nat.zero_le _, fun l nl => ?_⟩
    have s9 : Same H7 (upd H7 l (.lst [])) := same_new nl
    have mem : ∀ x ∈ ((r :: rest).map V.str).filter odd, ∃ u, x = .str u ∧ PyData.strOk u = true := fun x hx => by
      obtain ⟨z, mz, rfl⟩ := List.mem_map.mp (List.mem_filter.mp hx).1
      exact ⟨z, rfl, asc_ok (hW6.2.2 z (List.mem_cons_of_mem _ mz)).2⟩
    refine ⟨_, _, .lst (SqL.of (s9 _ _ hL)) (strs_dp _ fun x hx => by obtain ⟨u, e, _⟩ := mem x hx; exact ⟨u, e⟩), .lst (SqL.of upd_same) .nil, strs_shaped mem, nil_shaped, _, rfl, ?_⟩
    rw [strs_empty, odd_none]
    have s59 : Same H5 (upd H7 l (.lst [])) := s6.trans (s7.trans (s8.trans s9))
    generalize upd H7 l (.lst []) = H8 at s59 ⊢
    refine ite2 (fun e5 => ?_) (fun e5 => ?_)
    · refine ⟨_, rfl, out ?_ H8 s59⟩
      rw [eq2]
      exact not_t e5
    have ha : ∀ z ∈ r :: rest, (dash z || fig (tl z)) = true := List.all_eq_true.mp (not_f e5)
    have eok : rowOk row = true := by
      show okWs (ws row) = true
      rw [ew0, eq2]
      exact List.all_eq_true.mpr ha
    have et : turnOf row = (num (tl hd).dropLast, (r :: rest).map chOf) := by
      unfold turnOf
      rw [ew0]
      rfl
    have s48 : Same H3 H8 := s4.trans (s5.trans s59)
    have hp8 := s59 _ _ hp5
    have ho8 := s48 _ _ ho
    clear s9 hL s8 hb s7 nL nb nl hW6 hp6 s6
    -- the turn is put behind
    refine ⟨_, rfl, .inl ⟨rfl, _, SqL.of ho8⟩, _, rfl, p, _, 0, _, rfl, rfl, SqL.of hp8, at0, ?_⟩
    dsimp only [tNoPart]
    refine ⟨1, rfl, -1, rfl, hd, rfl, small_line (by omega), _, num (tl hd).dropLast, rfl, ?_, ?_, ?_⟩
    · rw [cut_but]
      exact (fig_int hf).1
    · rw [cut_but]
      exact (fig_int hf).2
    refine ⟨_, rfl, 1, rfl, p, _, rfl, SqL.of hp8, fun b nb => ⟨b, rfl, ⟨_, SqL.of upd_same⟩, fun L nL => ?_⟩⟩
    have s7 : Same H8 (upd H8 b (.lst (cutV ((hd :: r :: rest).map V.str) (some 1) none))) := same_new nb
    have hb : SqL K (upd H8 b (.lst (cutV ((hd :: r :: rest).map V.str) (some 1) none))) b ((r :: rest).map V.str) := by
      rw [cutV_tail]
      exact SqL.of upd_same
    refine LC.lc_map (walk_list (a := b) (xs := (r :: rest).map V.str) (K := K)) (fun H' s' => s'.seq hb) hrl2 nL chV (fun x H9 R mx s8 fin => ⟨rfl, ?_⟩) (fun H9 s8 hL => ?_)
    · obtain ⟨z, mz, rfl⟩ := List.mem_map.mp mx
      have y := fin H9 (Same.refl H9)
      have y2 : R (chOf z) H9 := y
      unfold chOf at y2
      refine ⟨_, rfl, rfl, _, rfl, ite2 (fun e4 => ?_) (fun e4 => ?_)⟩
      · have d : dash z = true := by
          unfold dash
          rw [V.str.inj (of_decide_eq_true e4)]
          rfl
        rw [if_pos d] at y2
        exact y2
      · have d : dash z = false := by
          unfold dash
          rw [decide_eq_false_iff_not]
          intro x
          exact e4 (decide_eq_true (congrArg V.str x))
        have hz := ha z mz
        rw [d, Bool.false_or] at hz
        rw [if_neg (by rw [d]; exact Bool.false_ne_true)] at y2
        have fi := fig_int hz
        rw [mk_tl] at fi
        exact ⟨_, rfl, z, _, rfl, fi.1, fi.2, y2⟩
    · rw [chV_map] at hL
      refine ⟨by show 2 ≤ sizeLine; decide, fun tp ntp => ?_⟩
      have s9 : Same H3 H9 := s48.trans (s7.trans s8)
      have ho9 := s9 _ _ ho
      have nLH : H L = none := same_none (sm.trans (s48.trans s7)) nL
      have ntH : H tp = none := same_none (sm.trans s9) ntp
      have hoL : o ≠ L := ne_of_none (s48.trans s7 _ _ ho) nL
      have s10 : Same H9 (upd H9 tp (.tup [.int (num (tl hd).dropLast), .ref L])) := same_new ntp
      have ho10 := s10 _ _ ho9
      have hT10 := (hT.same s9).same s10
      have hra10 := s10 _ _ (s9 _ _ hra3)
      have htp : (upd H9 tp (.tup [.int (num (tl hd).dropLast), .ref L])) tp = some (.tup [.int (num (tl hd).dropLast), .ref L]) := upd_same
      have hL10 := s10 _ _ hL
      have sm10 : Same H (upd H9 tp (.tup [.int (num (tl hd).dropLast), .ref L])) := sm.trans (s9.trans s10)
      generalize upd H9 tp (.tup [.int (num (tl hd).dropLast), .ref L]) = H10 at s10 ho10 hT10 hra10 htp hL10 sm10 ⊢
      have hul : us.length ≤ 1000 := by
        rw [hT.len, List.length_map, List.length_take]
        omega
      refine ⟨o, _, _, rfl, rfl, ho10, ?_, _, _, _, _, us ++ [(tp, L)], rfl, same_put sm10 no, ?_, fun j row' hj hr' => ?_, ⟨?_, ?_⟩, ?_⟩
      · rw [List.length_map]
        exact LC.small_line (by omega)
      · rw [upd_ne ner]
        exact hra10
      · by_cases ej : j = i
        · rw [ej, hrow] at hr'
          cases hr'
          exact eok
        · exact ok j row' (by omega) hr'
      · rw [map_snoc]
        exact upd_same
      · rw [take_next hrow, List.map_append, List.map_cons, List.map_nil, et]
        have hT9 : Tns H10 (us ++ [(tp, L)]) (((rowsOf t).take i).map turnOf ++ [(num (tl hd).dropLast, (r :: rest).map chOf)]) := Tns.snoc (t := (tp, L)) (r := (num (tl hd).dropLast, (r :: rest).map chOf)) htp hL10 hT10
        refine hT9.put ho10 fun z hz => ?_
        rcases List.mem_append.mp hz with m | m
        · exact (hN z m).2.2
        · rw [List.mem_singleton.mp m]
          exact hoL.symm
      · intro z hz
        rcases List.mem_append.mp hz with m | m
        · exact hN z m
        · rw [List.mem_singleton.mp m]
          exact ⟨ntH, nLH, hoL.symm⟩
  · obtain ⟨y2, y3, y4, y5, us, rfl, sm, hra3, ok, hR, hN⟩ := hP
    have el : (rowsOf t).take ((rowsOf t).map V.str).length = rowsOf t := List.take_of_length_le (by rw [List.length_map]; exact Nat.le_refl _)
    rw [el] at hR
    refine ⟨_, rfl, good (fun row hm => ?_) H3 o us sm hR⟩
    obtain ⟨j, hj, e⟩ := List.getElem_of_mem hm
    exact ok j row (by rw [List.length_map]; exact hj) (by rw [List.getElem?_eq_getElem hj, e])
end
end K50

set_option maxHeartbeats 4000000
namespace K50
open PySem PySem.Spec PyProof.Rows L2 TL G3 G4 M0 EE
theorem scTold : FnScope ["_law_line", "e"] ["_law_line"] (defScope sTold) := ⟨rfl, rfl, rfl, by decide +kernel, rfl, by decide +kernel, by decide +kernel⟩
section
variable {P : Program} {w : World} {K : PySem.W.Frag} {mg : Str → Option Value} {base : Heap}
def spTold (K : PySem.W.Frag) : Sp := fun vs H Q _ => ∃ v, vs = [v] ∧
  ((∃ d, Dp K H v d ∧ isStr d = false ∧ ∀ H', Same H H' → Q (.int 0) H') ∨
   ∃ t, v = .str t ∧ TxtOk t ∧ ((∀ row ∈ rowsOf t, rowOk row = true) → ∀ H' p us, Same H H' → RaceAt H' p us ((rowsOf t).map turnOf) → Q (.ref p) H') ∧
     ∀ i : Nat, BadAt (rowsOf t) i → ∀ H', Same H H' → Q (.int (i : Nat)) H')
theorem ok_told {f : Addr} {fd : FuncData} (F : Fun K "_law_told" "_law_told" sTold f fd) (S : Err P w K mg base "NoText" ["row"]) (R : Def P w K mg base (L2.CX P w) 3 "read_run" ["text"] (spRead K S.C)) (ex : PySem.W.exmOne K (.ref S.C) (.ref S.C) = some true) :
    FnOk P w K mg base CX0 4 f fd ["_law_line"] (spTold K) := by
  refine F.ok scTold (fun vs H Q E h => ?_) (fun cdv A outer s H vs Q E hr h => ?_)
  · obtain ⟨v, rfl, _⟩ := h
    rfl
  obtain ⟨v, rfl, h⟩ := h
  have nd := scTold.nd
  refine ⟨_, pss_one (ps_try_as (i := 1) (c := .ref S.C) (tb := fun W => tRet (tCallS (spRead K S.C) (WE W) (tCons (tVar 0) tNil))) (ts := fun a cls d => tRet (tByE S.C a cls d "row" (tVar 1))) rfl rfl nd rfl rfl ⟨by rfl, by decide, .inl S.g⟩ takes0
      (fun W pn xe tk po => pss_one (ps_ret (pe_callS R.ok hr (by rfl) R.g R.kp R.b (fun σ => passAt tk σ) (pa_cons (pv 0) pa_nil))))
      (fun a oe cls d pn hz hf => pss_one (ps_ret (pe_byE S.E (S.fld "row" (by simp)) hz hf (pv 1))))), ?_⟩
  have caught : ∀ (n : Int) (dd : Addr) (H' : Hp), H' dd = some (.xd [("row", .int n)]) → Q (.int n) H' → WE (wAs K (.ref S.C) 1 (fun a cls d => tRet (tByE S.C a cls d "row" (tVar 1))) (fun _ _ _ _ => False) { nx := fun _ H' => Q .non H', rt := Q }) (start ["_law_line", "e"] [v]) (.ref S.C) (some dd) H' := fun n dd H' hd q =>
    ⟨true, ex, fun _ a na => ⟨_, rfl, rfl, rfl, dd, _, .int n, rfl, hd, rfl, q⟩, fun z => nomatch z⟩
  rcases h with ⟨d, hd, nos, q⟩ | ⟨t, rfl, ht, good, bad⟩
  · exact ⟨_, rfl, _, rfl, .inl ⟨d, hd, nos, fun dd H' n1 s1 h1 => caught 0 dd H' h1 (q H' s1)⟩⟩
  · exact ⟨_, rfl, _, rfl, .inr ⟨t, rfl, ht, fun g H' p us s1 _ hR _ => good g H' p us s1 hR, fun i hb dd H' n1 s1 h1 => caught i dd H' h1 (bad i hb H' s1)⟩⟩
end
end K50

set_option maxHeartbeats 4000000
namespace K50
open PySem PySem.Spec PyProof.Rows L2 TL G3 G4 M0 EE
abbrev nShown : List Str := ["run", "rows", "hand", "choices", "words", "choice"]
abbrev nText : List Str := ["_law_road", "_law_found", "_law_who", "_law_choices", "_law_words", "_law_choice"]
theorem scShown : FnScope nShown ["run"] (defScope sShown) := ⟨rfl, rfl, rfl, by decide +kernel, rfl, by decide +kernel, by decide +kernel⟩
theorem scText : FnScope nText ["_law_road"] (defScope sText) := ⟨rfl, rfl, rfl, by decide +kernel, rfl, by decide +kernel, by decide +kernel⟩
def wdV (v : V) : V := .str (wd v)
theorem wdV_map (r : List V) : r.map wdV = (r.map wd).map V.str := by
  rw [List.map_map]
  rfl
theorem log_ok {n : Nat} (h : n < 10000) : ((n : Nat) : Int).natAbs.log2 < 1920 := by
  rw [Int.natAbs_natCast]
  by_cases h0 : n = 0
  · subst h0
    decide
  · exact (Nat.log2_lt h0).mpr (Nat.lt_trans h (Nat.lt_of_lt_of_le (by decide : 10000 < 2 ^ 14) (Nat.pow_le_pow_right (by decide) (by decide))))
theorem empty_app (x : Str) : Str.empty ++ x = x := ext_tl (by rw [tl_append]; rfl)
theorem num_len {n : Nat} (h : n < 10000) : (Str.ofString (toString ((n : Nat) : Int))).length ≤ 4 := by
  rw [len_tl, tl_num]
  exact numL_len (k := 4) (by decide) h
section
variable {X : Cx}
theorem call_str_num : CallR X (.type "str") (fun xs H Q => (∃ i, xs = [.int i] ∧ i.natAbs.log2 < 1920 ∧ Q (.str (toString i)) H) ∨ (xs = [.non] ∧ ∀ z : Str, Q (.str z) H)) := by
  intro pins s σ H xs us Q I r h
  rcases h with ⟨i, rfl, hz, q⟩ | ⟨rfl, q⟩
  · obtain ⟨u, rfl, t, rfl⟩ := vals1 r
    exact PySem.P.str_of_int hz ⟨.str _, H, I.tok _, ⟨_, rfl⟩, q⟩
  · obtain ⟨u, rfl, ru⟩ := vals1 r
    cases ru
    exact PySem.P.str_of_none ⟨.str _, H, I.tok _, ⟨_, rfl⟩, q _⟩
end
section
variable {P : Program} {w : World} {K : PySem.W.Frag} {mg : Str → Option Value} {base : Heap}
def spShown : Sp := fun vs H Q _ => ∃ (a : Addr) (ts : List (Addr × Addr)) (rs : List Tn), vs = [.ref a] ∧ RaceAt H a ts rs ∧ OkR rs ∧ ∀ H', Same H H' → Q (.str (runT rs)) H'
theorem ok_shown {f : Addr} {fd : FuncData} {k : Nat} (F : Fun K "shown_run" "shown_run" sShown f fd) (ms : mg "str" = none) : FnOk P w K mg base CX0 (k + 1) f fd ["run"] spShown := by
  refine F.ok scShown (fun vs H Q E h => ?_) (fun cdv A outer s H vs Q E hr h => ?_)
  · obtain ⟨a, ts, rs, rfl, _⟩ := h
    rfl
  obtain ⟨a, ts, rs, rfl, hR, ok, q⟩ := h
  have nd := scShown.nd
  refine ⟨_, pss_cons (ps_set (i := 1) nd rfl (.inl rfl) (pe_lst pa_nil))
    (pss_cons (ps_for PassesOwn.never rfl (pi_list (pv 0)) (pg_tup rfl (pgs_cons (pg_name (i := 2) nd rfl (.inl rfl)) (pgs_cons (pg_name (i := 3) nd rfl (.inl rfl)) pgs_nil)))
      (pss_cons (ps_setLc (i := 4) (own := [("choice", 5)]) (g := gName 5) (tt := tYes) (by rfl) nd rfl rfl (sw_true rfl rfl rfl (by decide +kernel)) (pi_list (pv 3))
          (blkOk_by (N := nShown) (sc := defScope sShown) (by decide +kernel)) (fun _ _ _ _ _ => pg_name (i := 5) nd rfl (.inl rfl)) (fun _ _ _ _ _ => pts_nil)
          (fun _ _ _ _ _ => pe_ifExp (pt_cmpR op_isN (pv 5) pe_non (nomark _)) pe_str (pe_callTy call_str_num (by rfl) ms (by decide +kernel) (pa_cons (pv 5) pa_nil))))
      (pss_one (ps_expr (pe_bm PySem.F.plainAttrs_list PySem.F.slot_list_append PySem.F.type_list_append mt_append (pv 1) (pa_cons (pe_join pe_str (pe_op op_cat (pe_lst (pa_cons (pe_joined (.cons (pe_fmt (pv 2)) (.cons pe_str .nil))) pa_nil)) (pv 4))) pa_nil))))))
    (pss_one (ps_ret (pe_join pe_str (pv 1))))), ?_⟩
  refine ⟨Nat.zero_le _, fun o no => ?_⟩
  have s1 : Same H (upd H o (.lst [])) := same_new no
  refine ⟨.ref a, rfl, a, rfl, ⟨_, SqL.of (s1 _ _ hR.1)⟩, for_list (xs := ts.map fun t => V.ref t.1)
    (fun i σ H3 => ∃ y2 y3 y4 y5, σ = [some (.ref a), some (.ref o), y2, y3, y4, y5] ∧ Same H H3 ∧ H3 o = some (.lst (((rs.take i).map rowT).map V.str)))
    ⟨none, none, none, none, rfl, s1, upd_same⟩ (fun i σ H3 _ hP => ?_) (fun i x σ H3 hx hP => ?_) (fun σ H3 hP => ?_)⟩
  · obtain ⟨_, _, _, _, _, sm, _⟩ := hP
    exact SqL.of (sm _ _ hR.1)
  · obtain ⟨y2, y3, y4, y5, rfl, sm, ho⟩ := hP
    obtain ⟨t, r, rfl, hr1, g1, g2⟩ := (hR.same sm).at hx
    have hm := List.mem_of_getElem? hr1
    have okr := (ok.row r hm).1
    obtain ⟨n, en, hn⟩ := okr.hand
    refine ⟨t.1, _, rfl, SqT.of g1, rfl, _, _, rfl, _, _, rfl, rfl, ?_⟩
    refine ⟨_, rfl, t.2, rfl, ⟨_, SqL.of g2⟩, fun D nD => LC.lc_map (walk_list (a := t.2) (xs := r.2) (K := K)) (fun H' s' => s'.seq (SqL.of g2)) ?_ nD wdV (fun x H4 R mx s4 fin => ⟨rfl, ?_⟩) (fun H4 s4 hD => ?_)⟩
    · have := (ok.row r hm).2
      omega
    · have y := fin H4 (Same.refl H4)
      rcases okr.all x mx with rfl | ⟨m, rfl, hm2⟩
      · exact ⟨_, rfl, rfl, _, rfl, iteT y⟩
      · exact ⟨_, rfl, rfl, _, rfl, iteF ⟨_, rfl, .inl ⟨_, rfl, log_ok hm2, y⟩⟩⟩
    · rw [wdV_map] at hD
      have ho4 := s4 _ _ ho
      have hL : (headW r).length ≤ 5 := words_len okr _ List.mem_cons_self
      have eo : Str.empty ++ Str.ofString (toString r.1) ++ ":" = headW r := by
        rw [empty_app]
        rfl
      have h1 : (Str.empty ++ Str.ofString (toString r.1)).length ≤ sizeLine := by
        rw [empty_app, en]
        exact Nat.le_trans (num_len hn) (by decide)
      have h2 : (Str.empty ++ Str.ofString (toString r.1) ++ ":").length ≤ sizeLine := by
        rw [eo]
        exact Nat.le_trans hL (by decide)
      refine ⟨_, rfl, .inl ⟨rfl, _, SqL.of ho4⟩, ⟨_, rfl⟩, _, rfl, .inr ⟨r.1, rfl, by rw [en]; exact log_ok hn, _, rfl, h1, _, rfl, h2, by show 1 ≤ sizeLine; decide, fun l nl => ?_⟩⟩
      have s5 : Same H4 (upd H4 l (.lst [.str (Str.empty ++ Str.ofString (toString r.1) ++ ":")])) := same_new nl
      have hl5 : (upd H4 l (.lst [.str (Str.empty ++ Str.ofString (toString r.1) ++ ":")])) l = some (.lst [.str (headW r)]) := by
        rw [upd_same, eo]
      generalize upd H4 l (.lst [.str (Str.empty ++ Str.ofString (toString r.1) ++ ":")]) = H5 at s5 hl5 ⊢
      have hc6 : r.2.length ≤ 6 := (ok.row r hm).2
      refine ⟨_, rfl, l, D, _, _, rfl, rfl, hl5, s5 _ _ hD, ?_, fun p np => ?_⟩
      · rw [List.length_map, List.length_map]
        exact Nat.le_trans (by show 1 + r.2.length ≤ 7; omega) (by decide)
      have s6 : Same H5 (upd H5 p (.lst ([.str (headW r)] ++ (r.2.map wd).map V.str))) := same_new np
      have hp6 : (upd H5 p (.lst ([.str (headW r)] ++ (r.2.map wd).map V.str))) p = some (.lst ((wordsT r).map V.str)) := upd_same
      generalize upd H5 p (.lst ([.str (headW r)] ++ (r.2.map wd).map V.str)) = H6 at s6 hp6 ⊢
      have hwl : (wordsT r).length ≤ 7 := by
        unfold wordsT
        rw [List.length_cons, List.length_map]
        omega
      refine ⟨_, p, wordsT r, rfl, rfl, .inl (SqL.of hp6), ?_, ?_⟩
      · have := sum_le _ (words_len okr)
        rw [len_sp]
        omega
      have s36 : Same H3 H6 := s4.trans (s5.trans s6)
      have ho6 := s36 _ _ ho
      refine ⟨o, _, _, rfl, rfl, ho6, ?_, _, _, _, _, rfl, same_put (sm.trans s36) no, ?_⟩
      · rw [List.length_map, List.length_map, List.length_take]
        have := ok.len
        exact LC.small_line (by omega)
      · rw [upd_same, take_next hr1, List.map_append, List.map_append]
        rfl
  · obtain ⟨y2, y3, y4, y5, rfl, sm, ho⟩ := hP
    have et : rs.take (ts.map fun t => V.ref t.1).length = rs := List.take_of_length_le (by rw [List.length_map, hR.2.len]; exact Nat.le_refl _)
    rw [et] at ho
    refine ⟨⟨_, rfl⟩, _, rfl, _, o, rs.map rowT, rfl, rfl, .inl (SqL.of ho), ?_, q H3 sm⟩
    have h1 := sum_le _ (rows_short ok)
    have h2 := ok.len
    rw [len_nl]
    rw [List.length_map] at h1 ⊢
    omega
/-! the law's own writing -/
theorem ok_text {f : Addr} {fd : FuncData} {k : Nat} (F : Fun K "_law_run_text" "_law_run_text" sText f fd) (ms : mg "str" = none) (mn : mg "int" = none) : FnOk P w K mg base CX0 (k + 1) f fd ["_law_road"] spShown := by
  refine F.ok scText (fun vs H Q E h => ?_) (fun cdv A outer s H vs Q E hr h => ?_)
  · obtain ⟨a, ts, rs, rfl, _⟩ := h
    rfl
  obtain ⟨a, ts, rs, rfl, hR, ok, q⟩ := h
  have nd := scText.nd
  refine ⟨_, pss_cons (ps_set (i := 1) nd rfl (.inl rfl) (pe_lst pa_nil))
    (pss_cons (ps_for PassesOwn.never rfl (pi_list (pv 0)) (pg_tup rfl (pgs_cons (pg_name (i := 2) nd rfl (.inl rfl)) (pgs_cons (pg_name (i := 3) nd rfl (.inl rfl)) pgs_nil)))
      (pss_cons (ps_setLc (i := 4) (own := [("_law_choice", 5)]) (g := gName 5) (tt := tYes) (by rfl) nd rfl rfl (sw_true rfl rfl rfl (by decide +kernel)) (pi_list (pv 3))
          (blkOk_by (N := nText) (sc := defScope sText) (by decide +kernel)) (fun _ _ _ _ _ => pg_name (i := 5) nd rfl (.inl rfl)) (fun _ _ _ _ _ => pts_nil)
          (fun _ _ _ _ _ => pe_ix (r := rIxL K) ix_list (pe_lst (pa_cons pe_str (pa_cons (pe_callTy call_str_num (by rfl) ms (by decide +kernel) (pa_cons (pv 5) pa_nil)) pa_nil))) (pe_callTy call_int1 (by rfl) mn (by decide +kernel) (pa_cons (pe_cmpR op_notN (pv 5) pe_non (nomark _)) pa_nil)) (fun _ _ => rfl)))
      (pss_one (ps_expr (pe_bm PySem.F.plainAttrs_list PySem.F.slot_list_append PySem.F.type_list_append mt_append (pv 1) (pa_cons (pe_join pe_str (pe_op op_cat (pe_lst (pa_cons (pe_op op_add_str (pe_callTy call_str_num (by rfl) ms (by decide +kernel) (pa_cons (pv 2) pa_nil)) pe_str) pa_nil)) (pv 4))) pa_nil))))))
    (pss_one (ps_ret (pe_join pe_str (pv 1))))), ?_⟩
  refine ⟨Nat.zero_le _, fun o no => ?_⟩
  have s1 : Same H (upd H o (.lst [])) := same_new no
  refine ⟨.ref a, rfl, a, rfl, ⟨_, SqL.of (s1 _ _ hR.1)⟩, for_list (xs := ts.map fun t => V.ref t.1)
    (fun i σ H3 => ∃ y2 y3 y4 y5, σ = [some (.ref a), some (.ref o), y2, y3, y4, y5] ∧ Same H H3 ∧ H3 o = some (.lst (((rs.take i).map rowT).map V.str)))
    ⟨none, none, none, none, rfl, s1, upd_same⟩ (fun i σ H3 _ hP => ?_) (fun i x σ H3 hx hP => ?_) (fun σ H3 hP => ?_)⟩
  · obtain ⟨_, _, _, _, _, sm, _⟩ := hP
    exact SqL.of (sm _ _ hR.1)
  · obtain ⟨y2, y3, y4, y5, rfl, sm, ho⟩ := hP
    obtain ⟨t, r, rfl, hr1, g1, g2⟩ := (hR.same sm).at hx
    have hm := List.mem_of_getElem? hr1
    have okr := (ok.row r hm).1
    obtain ⟨n, en, hn⟩ := okr.hand
    refine ⟨t.1, _, rfl, SqT.of g1, rfl, _, _, rfl, _, _, rfl, rfl, ?_⟩
    refine ⟨_, rfl, t.2, rfl, ⟨_, SqL.of g2⟩, fun D nD => LC.lc_map (walk_list (a := t.2) (xs := r.2) (K := K)) (fun H' s' => s'.seq (SqL.of g2)) ?_ nD wdV (fun x H4 R mx s4 fin => ⟨rfl, ?_⟩) (fun H4 s4 hD => ?_)⟩
    · have := (ok.row r hm).2
      omega
    · rcases okr.all x mx with rfl | ⟨m, rfl, hm2⟩
      · exact ⟨_, rfl, .inr ⟨rfl, fun z => ⟨by show 2 ≤ sizeLine; decide, fun l nl => ⟨_, rfl, rfl, .inr ⟨_, rfl, l, _, 0, _, rfl, rfl, SqL.of upd_same, atI_nat (j := 0) rfl, fin _ (same_new nl)⟩⟩⟩⟩⟩
      · exact ⟨_, rfl, .inl ⟨_, rfl, log_ok hm2, by show 2 ≤ sizeLine; decide, fun l nl => ⟨_, rfl, rfl, .inr ⟨_, rfl, l, _, 1, _, rfl, rfl, SqL.of upd_same, atI_nat (j := 1) rfl, fin _ (same_new nl)⟩⟩⟩⟩
    · rw [wdV_map] at hD
      have ho4 := s4 _ _ ho
      have hL : (headW r).length ≤ 5 := words_len okr _ List.mem_cons_self
      have hlog : r.1.natAbs.log2 < 1920 := by rw [en]; exact log_ok hn
      have h2 : (Str.ofString (toString r.1)).length + (":" : Str).length ≤ sizeLine := by
        rw [en]
        have := num_len hn
        rw [show (":" : Str).length = 1 from by rw [len_tl, tl_colon]; rfl]
        exact Nat.le_trans (by omega : _ ≤ 5) (by decide)
      refine ⟨_, rfl, .inl ⟨rfl, _, SqL.of ho4⟩, ⟨_, rfl⟩, _, rfl, .inl ⟨r.1, rfl, hlog, _, _, rfl, rfl, h2, by show 1 ≤ sizeLine; decide, fun l nl => ?_⟩⟩
      have s5 : Same H4 (upd H4 l (.lst [.str (Str.ofString (toString r.1) ++ ":")])) := same_new nl
      have hl5 : (upd H4 l (.lst [.str (Str.ofString (toString r.1) ++ ":")])) l = some (.lst [.str (headW r)]) := upd_same
      generalize upd H4 l (.lst [.str (Str.ofString (toString r.1) ++ ":")]) = H5 at s5 hl5 ⊢
      have hc6 : r.2.length ≤ 6 := (ok.row r hm).2
      refine ⟨_, rfl, l, D, _, _, rfl, rfl, hl5, s5 _ _ hD, ?_, fun p np => ?_⟩
      · rw [List.length_map, List.length_map]
        exact Nat.le_trans (by show 1 + r.2.length ≤ 7; omega) (by decide)
      have s6 : Same H5 (upd H5 p (.lst ([.str (headW r)] ++ (r.2.map wd).map V.str))) := same_new np
      have hp6 : (upd H5 p (.lst ([.str (headW r)] ++ (r.2.map wd).map V.str))) p = some (.lst ((wordsT r).map V.str)) := upd_same
      generalize upd H5 p (.lst ([.str (headW r)] ++ (r.2.map wd).map V.str)) = H6 at s6 hp6 ⊢
      have hwl : (wordsT r).length ≤ 7 := by
        unfold wordsT
        rw [List.length_cons, List.length_map]
        omega
      refine ⟨_, p, wordsT r, rfl, rfl, .inl (SqL.of hp6), ?_, ?_⟩
      · have := sum_le _ (words_len okr)
        rw [len_sp]
        omega
      have s36 : Same H3 H6 := s4.trans (s5.trans s6)
      have ho6 := s36 _ _ ho
      refine ⟨o, _, _, rfl, rfl, ho6, ?_, _, _, _, _, rfl, same_put (sm.trans s36) no, ?_⟩
      · rw [List.length_map, List.length_map, List.length_take]
        have := ok.len
        exact LC.small_line (by omega)
      · rw [upd_same, take_next hr1, List.map_append, List.map_append]
        rfl
  · obtain ⟨y2, y3, y4, y5, rfl, sm, ho⟩ := hP
    have et : rs.take (ts.map fun t => V.ref t.1).length = rs := List.take_of_length_le (by rw [List.length_map, hR.2.len]; exact Nat.le_refl _)
    rw [et] at ho
    refine ⟨⟨_, rfl⟩, _, rfl, _, o, rs.map rowT, rfl, rfl, .inl (SqL.of ho), ?_, q H3 sm⟩
    have h1 := sum_le _ (rows_short ok)
    have h2 := ok.len
    rw [len_nl]
    rw [List.length_map] at h1 ⊢
    omega
end
end K50

set_option maxHeartbeats 4000000
namespace K50
open PySem PySem.Spec PyProof.Rows L2
theorem scPool : FnScope ["_law_script", "_law_k", "_law_cell", "_law_mixed"] ["_law_script", "_law_k"] (defScope sPool) := ⟨rfl, rfl, rfl, by decide +kernel, rfl, by decide +kernel, by decide +kernel⟩
theorem scTake : FnScope ["_law_pool_here", "_law_many", "_law_found"] ["_law_pool_here", "_law_many"] (defScope sTake) := ⟨rfl, rfl, rfl, by decide +kernel, rfl, by decide +kernel, by decide +kernel⟩
section
variable {P : Program} {w : World} {K : PySem.W.Frag} {mg : Str → Option Value} {base : Heap}

/-- what a pool holds -/
def Pool (H : Hp) (p : Addr) : Prop := ∃ x y : Int, H p = some (.lst [.int x, .int y]) ∧ 0 ≤ x ∧ 0 ≤ y ∧ y < 2147483647
def spTake : Sp := fun vs H Q _ => ∃ (p : Addr) (m : Int), vs = [.ref p, .int m] ∧ Pool H p ∧ 0 < m ∧ m < 1073741824 ∧
  ∀ (x y r : Int), 0 ≤ x → 0 ≤ y → y < 2147483647 → 0 ≤ r → r < m → Q (.int r) (upd H p (.lst [.int x, .int y]))
def spPool (K : PySem.W.Frag) : Sp := fun vs H Q _ => ∃ (a : Addr) (ns : List Int) (k : Nat), vs = [.ref a, .int k] ∧ SqL K H a (ns.map V.int) ∧ k ≤ 1000 ∧
  ∀ (p : Addr) (x y : Int), H p = none → 0 ≤ x → 0 ≤ y → y < 2147483647 → Q (.ref p) (upd H p (.lst [.int x, .int y]))

theorem ok_take {f : Addr} {fd : FuncData} {k : Nat} (F : Fun K "_law_take" "_law_take" sTake f fd) : FnOk P w K mg base CX0 (k + 1) f fd ["_law_pool_here", "_law_many"] spTake := by
  refine F.ok scTake (fun vs H Q E h => ?_) (fun cdv A outer s H vs Q E hr h => ?_)
  · obtain ⟨p, m, rfl, _⟩ := h
    rfl
  · obtain ⟨p, m, rfl, ⟨x, y, hp, hx, hy, hy2⟩, hm, hm2, q⟩ := h
    have nd := scTake.nd
    refine ⟨_, pss_cons (ps_if (pt_cmpR op_gt (pe_ix ix_list (pv 0) pe_int (fun _ _ => rfl)) pe_int (nomark _))
        (pss_cons (ps_set (i := 2) nd rfl (.inl rfl) (pe_op op_mod (pe_ix ix_list (pv 0) pe_int (fun _ _ => rfl)) (pv 1)))
        (pss_cons (ps_asg (pe_op op_fdiv (pe_ix ix_list (pv 0) pe_int (fun _ _ => rfl)) (pv 1)) (pg_sub (pv 0) pe_int set_list))
        (pss_one (ps_ret (pv 2))))) pss_nil)
      (pss_cons (ps_asg (pe_op op_mod (pe_op op_add (pe_op op_mul (pe_ix ix_list (pv 0) pe_int (fun _ _ => rfl)) pe_int) pe_int) pe_int) (pg_sub (pv 0) pe_int set_list))
      (pss_one (ps_ret (pe_op op_mod (pe_op op_fdiv (pe_op op_mod (pe_op op_mul (pe_ix ix_list (pv 0) pe_int (fun _ _ => rfl)) (pe_ix ix_list (pv 0) pe_int (fun _ _ => rfl))) pe_int) pe_int) (pv 1))))), ?_⟩
    have g0 : atI [V.int x, V.int y] 0 = some (V.int x) := atI_nat (j := 0) rfl
    have g1 : atI [V.int x, V.int y] 1 = some (V.int y) := atI_nat (j := 1) rfl
    refine ⟨_, rfl, p, _, 0, _, rfl, rfl, SqL.of hp, g0, x, 0, rfl, rfl, _, rfl, ite2 (fun e => ?_) (fun e => ?_)⟩
    · -- the great cell
      have hd1 : 0 ≤ x / m := Int.ediv_nonneg hx (Int.le_of_lt hm)
      refine ⟨_, rfl, p, _, 0, _, rfl, rfl, SqL.of hp, g0, _, rfl, x, m, rfl, rfl, hm, ?_⟩
      refine ⟨_, rfl, p, _, 0, _, rfl, rfl, SqL.of hp, g0, _, rfl, x, m, rfl, rfl, ⟨hm, hm2⟩, ?_⟩
      refine ⟨_, rfl, p, _, 0, 0, rfl, rfl, hp, rfl, _, rfl, ?_⟩
      exact q _ _ _ hd1 hy hy2 (Int.emod_nonneg x (by omega)) (Int.emod_lt_of_pos x hm)
    · have hz1 : 0 ≤ (y * 48271 + 12345) % 2147483647 := Int.emod_nonneg _ (by decide)
      have hz2 : (y * 48271 + 12345) % 2147483647 < 2147483647 := Int.emod_lt_of_pos _ (by decide)
      refine ⟨_, rfl, p, _, 1, _, rfl, rfl, SqL.of hp, g1, y, 48271, rfl, rfl, .inr ⟨by decide, by decide⟩, _, _, rfl, rfl, _, _, rfl, rfl, (show (0 : Int) < 2147483647 by decide), ?_⟩
      refine ⟨_, rfl, p, _, 1, 1, rfl, rfl, hp, rfl, ?_⟩
      have g2 : atI ([V.int x, V.int y].set 1 (V.int ((y * 48271 + 12345) % 2147483647))) 1 = some (V.int ((y * 48271 + 12345) % 2147483647)) := atI_nat (j := 1) rfl
      refine ⟨_, rfl, p, _, 1, _, rfl, rfl, SqL.of upd_same, g2, _, rfl, p, _, 1, _, rfl, rfl, SqL.of upd_same, g2, _, _, rfl, rfl, .inl ⟨by omega, by omega⟩, ?_⟩
      refine ⟨_, _, rfl, rfl, (show (0 : Int) < 2147483629 by decide), _, _, rfl, rfl, ⟨by decide, by decide⟩, _, rfl, _, m, rfl, rfl, hm, ?_⟩
      exact q _ _ _ hx hz1 hz2 (Int.emod_nonneg _ (by omega)) (Int.emod_lt_of_pos _ hm)

theorem ok_pool {f : Addr} {fd : FuncData} {k : Nat} (F : Fun K "_law_pool" "_law_pool" sPool f fd) (ml : mg "len" = none) (ma : mg "abs" = none) (mi : mg "int" = none) : FnOk P w K mg base CX0 (k + 1) f fd ["_law_script", "_law_k"] (spPool K) := by
  refine F.ok scPool (fun vs H Q E h => ?_) (fun cdv A outer s H vs Q E hr h => ?_)
  · obtain ⟨a, ns, k, rfl, _⟩ := h
    rfl
  · obtain ⟨a, ns, k, rfl, hS, hk, q⟩ := h
    have nd := scPool.nd
    refine ⟨_, pss_cons (ps_set (i := 2) nd rfl (.inl rfl) pe_int)
      (pss_cons (ps_if (pt_cmpR op_lt (pv 1) (pe_callB call_len_seq (by rfl) ml PySem.boot_len (pa_cons (pv 0) pa_nil)) (nomark _))
        (pss_one (ps_set (i := 2) nd rfl (.inl rfl) (pe_callB call_abs (by rfl) ma (by decide +kernel) (pa_cons (pe_ix ix_list (pv 0) (pv 1) (fun _ _ => rfl)) pa_nil)))) pss_nil)
      (pss_cons (ps_set (i := 3) nd rfl (.inl rfl) (pe_op op_mod (pe_op op_mul (pe_op op_add (pe_op op_add (pe_op op_add (pe_op op_mod (pv 2) pe_int) (pe_op op_mul (pe_op op_mul pe_int (pv 1)) (pv 1))) (pe_op op_mul pe_int (pv 1))) pe_int) pe_int) pe_int))
      (pss_one (ps_ret (pe_lst (pa_cons (pe_op op_mul (pv 2) (pe_callTy call_int1 (by rfl) mi (by decide +kernel) (pa_cons (pe_cmpR op_ge (pv 2) (pe_op op_pow pe_int pe_int) (nomark _)) pa_nil)))
        (pa_cons (pe_op op_mod (pe_op op_mul (pv 3) (pv 3)) pe_int) pa_nil))))))), ?_⟩
    -- what follows once the cell is known
    have rest : ∀ c : Int, 0 ≤ c → (tSeq (tAsg (tOp (rI (fun _ j => 0 < j) fun i j => .int (i % j)) (tOp (rI CMul fun i j => .int (i * j)) (tOp (rI0 fun i j => .int (i + j)) (tOp (rI0 fun i j => .int (i + j)) (tOp (rI0 fun i j => .int (i + j)) (tOp (rI (fun _ j => 0 < j) fun i j => .int (i % j)) (tVar 2) (tC (.int 2147483629))) (tOp (rI CMul fun i j => .int (i * j)) (tOp (rI CMul fun i j => .int (i * j)) (tC (.int 7919)) (tVar 1)) (tVar 1))) (tOp (rI CMul fun i j => .int (i * j)) (tC (.int 31)) (tVar 1))) (tC (.int 17))) (tC (.int 48271))) (tC (.int 2147483647))) (gName 3))
        (tRet (tLst (tCons (tOp (rI CMul fun i j => .int (i * j)) (tVar 2) (tCB (fun xs H Q => (∃ i, xs = [.int i] ∧ Q (.int i) H) ∨ ∃ k, xs = [.bl k] ∧ Q (.int (if k then 1 else 0)) H) (tCons (tOp (rI0 fun i j => .bl (decide (j ≤ i))) (tVar 2) (tOp (rI CPow fun i j => .int (i ^ j.toNat)) (tC (.int 10)) (tC (.int 18)))) tNil)))
          (tCons (tOp (rI (fun _ j => 0 < j) fun i j => .int (i % j)) (tOp (rI CMul fun i j => .int (i * j)) (tVar 3) (tVar 3)) (tC (.int 2147483629))) tNil)))))
        { nx := fun _ H' => Q .non H', rt := Q } [some (.ref a), some (.int k), some (.int c), none] H := by
      intro c hc
      refine ⟨_, rfl, c, _, rfl, rfl, (show (0 : Int) < 2147483629 by decide), _, rfl, _, _, rfl, rfl, .inl ⟨by decide, by decide⟩, _, rfl, _, _, rfl, rfl, .inr ⟨by omega, by omega⟩, _, _, rfl, rfl, _, rfl, _, _, rfl, rfl, .inl ⟨by decide, by decide⟩, _, _, rfl, rfl, _, _, rfl, rfl, _, _, rfl, rfl, .inr ⟨by decide, by decide⟩, _, _, rfl, rfl, (show (0 : Int) < 2147483647 by decide), ?_⟩
      have hz1 : 0 ≤ (c % 2147483629 + 7919 * (k : Int) * k + 31 * k + 17) * 48271 % 2147483647 := Int.emod_nonneg _ (by decide)
      have hz2 : (c % 2147483629 + 7919 * (k : Int) * k + 31 * k + 17) * 48271 % 2147483647 < 2147483647 := Int.emod_lt_of_pos _ (by decide)
      refine ⟨_, rfl, _, rfl, _, _, rfl, rfl, ⟨by decide, by decide, by decide⟩, c, _, rfl, rfl, .inr ⟨_, rfl, ?_⟩⟩
      have key : ∀ b : Bool, 0 ≤ c * (if b then 1 else 0) := fun b => by cases b <;> simp [hc]
      have sm : ∀ b : Bool, (-(2 ^ 64) : Int) < (if b then 1 else 0) ∧ ((if b then 1 else 0) : Int) < 2 ^ 64 := fun b => by cases b <;> decide
      refine ⟨c, _, rfl, rfl, .inr (sm _), _, rfl, _, rfl, _, _, rfl, rfl, .inl ⟨Int.lt_of_lt_of_le (by decide) hz1, Int.lt_trans hz2 (by decide)⟩, _, _, rfl, rfl, (show (0 : Int) < 2147483629 by decide), by show 2 ≤ sizeLine; decide, fun p np => ?_⟩
      exact q p _ _ np (key _) (Int.emod_nonneg _ (by decide)) (Int.lt_trans (Int.emod_lt_of_pos _ (by decide)) (by decide))
    refine ⟨_, rfl, _, rfl, a, _, rfl, .inl hS, _, _, rfl, rfl, _, rfl, ite2 (fun e => ?_) (fun e => ?_)⟩
    · have hk2 : k < ns.length := by
        have := of_decide_eq_true e
        rw [List.length_map] at this
        omega
      have g : (ns.map V.int)[k]? = some (.int ns[k]) := by
        rw [List.getElem?_map, List.getElem?_eq_getElem hk2]
        rfl
      refine ⟨_, rfl, _, rfl, a, _, k, _, rfl, rfl, hS, atI_nat g, ns[k], rfl, ?_⟩
      refine rest _ ?_
      split <;> omega
    · exact rest 0 (by decide)
end
end K50

set_option maxHeartbeats 4000000
namespace K50
open PySem PySem.Spec PyProof.Rows L2 TL G3 G4 M0 EE
abbrev nDrawn : List Str := ["_law_pool_here", "_law_found", "_law_turn", "_law_choices", "_law_at"]
theorem scDrawn : FnScope nDrawn ["_law_pool_here"] (defScope sDrawn) := ⟨rfl, rfl, rfl, by decide +kernel, rfl, by decide +kernel, by decide +kernel⟩
theorem off_put {p D : Addr} {H : Hp} {o : HO} (h : D ≠ p) : M0.off p (upd H D o) = upd (M0.off p H) D o := by
  funext b
  by_cases e : b = D
  · rw [e, off_ne h, upd_same, upd_same]
  · rw [upd_ne e]
    by_cases z : b = p
    · rw [z]
      unfold M0.off
      rw [if_pos rfl, if_pos rfl]
    · rw [off_ne z, off_ne z, upd_ne e]
theorem pool_ne {H : Hp} {p t : Addr} (pl : Pool H p) (nt : H t = none) : t ≠ p := fun e => by
  obtain ⟨x, y, h, _⟩ := pl
  rw [e, h] at nt
  cases nt
theorem pool_put {H : Hp} {p t : Addr} {o : HO} (pl : Pool H p) (ne : t ≠ p) : Pool (upd H t o) p := by
  obtain ⟨x, y, h, r⟩ := pl
  exact ⟨x, y, by rw [upd_ne ne.symm]; exact h, r⟩
theorem pool_same {H H' : Hp} {p : Addr} (h : Pool H p) (s : Same H H') : Pool H' p := by
  obtain ⟨x, y, e, r⟩ := h
  exact ⟨x, y, s _ _ e, r⟩
theorem off_none {p b : Addr} {H : Hp} (h : H b = none) : M0.off p H b = none := by
  unfold M0.off
  split
  · rfl
  · exact h
theorem off_at {p b : Addr} {H : Hp} {o : HO} (h : M0.off p H b = some o) : H b = some o ∧ b ≠ p := by
  by_cases z : b = p
  · rw [z] at h
    unfold M0.off at h
    rw [if_pos rfl] at h
    cases h
  · rw [off_ne z] at h
    exact ⟨h, z⟩
theorem menu {m r : Int} (h0 : 0 ≤ r) (h1 : r < 9) (h2 : 0 ≤ m) (h3 : m < 4) : ∃ v, atI [V.non, V.int r, V.int 0, V.int 2000] m = some v ∧ okv v := by
  have hm : m = 0 ∨ m = 1 ∨ m = 2 ∨ m = 3 := by omega
  rcases hm with rfl | rfl | rfl | rfl
  · exact ⟨_, atI_nat (j := 0) rfl, .inl rfl⟩
  · refine ⟨_, atI_nat (j := 1) rfl, .inr ⟨r.toNat, ?_, by omega⟩⟩
    rw [Int.toNat_of_nonneg h0]
  · exact ⟨_, atI_nat (j := 2) rfl, .inr ⟨0, rfl, by decide⟩⟩
  · exact ⟨_, atI_nat (j := 3) rfl, .inr ⟨2000, rfl, by decide⟩⟩
section
variable {P : Program} {w : World} {K : PySem.W.Frag} {mg : Str → Option Value} {base : Heap}
def spDrawn : Sp := fun vs H Q _ => ∃ p : Addr, vs = [.ref p] ∧ Pool H p ∧
  ∀ H' o ts rs, Same (M0.off p H) (M0.off p H') → Pool H' p → RaceAt (M0.off p H') o ts rs → OkR rs → Q (.ref o) H'
theorem ok_drawn {f : Addr} {fd : FuncData} (F : Fun K "_law_run_drawn" "_law_run_drawn" sDrawn f fd) (T : Def P w K mg base CX0 1 "_law_take" ["_law_pool_here", "_law_many"] spTake) (mr : mg "range" = none) : FnOk P w K mg base CX0 2 f fd ["_law_pool_here"] spDrawn := by
  refine F.ok scDrawn (fun vs H Q E h => ?_) (fun cdv A outer s H vs Q E hr h => ?_)
  · obtain ⟨p, rfl, _⟩ := h
    rfl
  obtain ⟨p, rfl, pl, q⟩ := h
  have nd := scDrawn.nd
  refine ⟨_, pss_cons (ps_set (i := 1) nd rfl (.inl rfl) (pe_lst pa_nil))
    (pss_cons (ps_for PassesOwn.never rfl (pi_range1 (by rfl) mr (pa_cons (pe_call T.ok hr (by rfl) T.g T.kp T.b .nil pass0 (pa_cons (pv 0) (pa_cons pe_int pa_nil))) pa_nil)) (pg_name (i := 2) nd rfl (.inl rfl))
      (pss_cons (ps_setLc (i := 3) (own := [("_law_at", 4)]) (g := gName 4) (tt := tYes) (by rfl) nd rfl rfl (sw_true rfl rfl rfl (by decide +kernel))
          (pi_range1 (by rfl) mr (pa_cons (pe_op op_add pe_int (pe_call T.ok hr (by rfl) T.g T.kp T.b .nil pass0 (pa_cons (pv 0) (pa_cons pe_int pa_nil)))) pa_nil))
          (blkOk_by (N := nDrawn) (sc := defScope sDrawn) (by decide +kernel)) (fun _ _ _ _ _ => pg_name (i := 4) nd rfl (.inl rfl)) (fun _ _ _ _ _ => pts_nil)
          (fun _ _ _ _ _ => pe_ix (r := rIxL K) ix_list (pe_lst (pa_cons pe_non (pa_cons (pe_call T.ok hr (by rfl) T.g T.kp T.b .nil pass0 (pa_cons (pv 0) (pa_cons pe_int pa_nil))) (pa_cons pe_int (pa_cons pe_int pa_nil))))) (pe_call T.ok hr (by rfl) T.g T.kp T.b .nil pass0 (pa_cons (pv 0) (pa_cons pe_int pa_nil))) (fun _ _ => rfl)))
      (pss_one (ps_expr (pe_bm PySem.F.plainAttrs_list PySem.F.slot_list_append PySem.F.type_list_append mt_append (pv 1) (pa_cons (pe_tup (pa_cons (pe_call T.ok hr (by rfl) T.g T.kp T.b .nil pass0 (pa_cons (pv 0) (pa_cons pe_int pa_nil))) (pa_cons (pv 3) pa_nil))) pa_nil))))))
    (pss_one (ps_ret (pv 1)))), ?_⟩
  refine ⟨Nat.zero_le _, fun o no => ?_⟩
  have eo : o ≠ p := pool_ne pl no
  have pl1 : Pool (upd H o (.lst [])) p := pool_put pl eo
  have s1 : Same (M0.off p H) (M0.off p (upd H o (.lst []))) := off_mono (same_new no)
  have ho1 : (upd H o (.lst [])) o = some (.lst []) := upd_same
  generalize upd H o (.lst []) = H1 at pl1 s1 ho1 ⊢
  refine ⟨_, rfl, p, 5, rfl, pl1, by decide, by decide, fun x1 y1 n hx1 hy1 hz1 hn0 hn1 => ?_⟩
  refine ⟨n, rfl, by omega, by omega, ?_⟩
  refine for_range (n := n.toNat) (fun i σ H3 => ∃ y2 y3 y4 ts rs, σ = [some (.ref p), some (.ref o), y2, y3, y4] ∧ Same (M0.off p H) (M0.off p H3) ∧ Pool H3 p ∧ RaceAt (M0.off p H3) o ts rs ∧ New (M0.off p H) o ts ∧ rs.length = i ∧ ∀ r ∈ rs, OkT r ∧ r.2.length ≤ 6)
    ⟨none, none, none, [], [], rfl, by rw [off_upd]; exact s1, ⟨x1, y1, upd_same, hx1, hy1, hz1⟩, ⟨by rw [off_upd, off_ne eo]; exact ho1, .nil⟩, fun _ z => (nomatch z), rfl, fun _ z => (nomatch z)⟩ (fun i σ H3 hi hP => ?_) (fun σ H3 hP => ?_)
  · obtain ⟨y2, y3, y4, ts, rs, rfl, sm, pl3, ⟨ho, hT⟩, hN, hl, hok⟩ := hP
    refine ⟨_, rfl, p, 6, rfl, pl3, by decide, by decide, fun x2 y5 m hx2 hy2 hz2 hm0 hm1 => ?_⟩
    have pl4 : Pool (upd H3 p (.lst [.int x2, .int y5])) p := ⟨x2, y5, upd_same, hx2, hy2, hz2⟩
    have e4 : M0.off p (upd H3 p (.lst [.int x2, .int y5])) = M0.off p H3 := off_upd
    generalize upd H3 p (.lst [.int x2, .int y5]) = H4 at pl4 e4 ⊢
    refine ⟨1, m, rfl, rfl, 1 + m, rfl, by omega, by omega, fun D nD => ?_⟩
    have eD : D ≠ p := pool_ne pl4 nD
    have nD3 : M0.off p H3 D = none := by rw [← e4]; exact off_none nD
    refine lc_range (n := (1 + m).toNat) (fun l H6 => Pool H6 p ∧ Same (M0.off p H3) (M0.off p H6) ∧ ∃ acc, H6 D = some (.lst acc) ∧ acc.length = l ∧ ∀ v ∈ acc, okv v)
      ⟨pool_put pl4 eD, ?_, [], upd_same, rfl, fun _ z => (nomatch z)⟩ (fun l H6 hl2 hQ => ?_) (fun H6 hQ => ?_)
    · rw [off_put eD, e4]
      exact same_new nD3
    · obtain ⟨pl6, s6, acc, hacc, hal, hav⟩ := hQ
      refine ⟨rfl, ?_⟩
      dsimp only [tYes]
      rw [if_pos rfl]
      refine ⟨_, rfl, p, 9, rfl, pl6, by decide, by decide, fun x3 y6 r hx3 hy3 hz3 hr0 hr1 => ⟨by show 4 ≤ sizeLine; decide, fun e ne => ?_⟩⟩
      have pl7 : Pool (upd H6 p (.lst [.int x3, .int y6])) p := ⟨x3, y6, upd_same, hx3, hy3, hz3⟩
      have e7 : M0.off p (upd H6 p (.lst [.int x3, .int y6])) = M0.off p H6 := off_upd
      have h7 : (upd H6 p (.lst [.int x3, .int y6])) D = some (.lst acc) := by rw [upd_ne eD]; exact hacc
      generalize upd H6 p (.lst [.int x3, .int y6]) = H7 at pl7 e7 h7 ne ⊢
      have ee : e ≠ p := pool_ne pl7 ne
      have s8 : Same H7 (upd H7 e (.lst [.non, .int r, .int 0, .int 2000])) := same_new ne
      have pl8 := pool_same pl7 s8
      have h8 := s8 _ _ h7
      have he8 : (upd H7 e (.lst [.non, .int r, .int 0, .int 2000])) e = some (.lst [.non, .int r, .int 0, .int 2000]) := upd_same
      have s38 : Same (M0.off p H3) (M0.off p (upd H7 e (.lst [.non, .int r, .int 0, .int 2000]))) := by
        rw [← e7] at s6
        exact s6.trans (off_mono s8)
      generalize upd H7 e (.lst [.non, .int r, .int 0, .int 2000]) = H8 at s8 pl8 h8 he8 s38 ⊢
      refine ⟨_, rfl, p, 4, rfl, pl8, by decide, by decide, fun x4 y7 c hx4 hy4 hz4 hc0 hc1 => ?_⟩
      obtain ⟨v, hv1, hv2⟩ := menu hr0 hr1 hc0 hc1
      refine ⟨e, _, c, v, rfl, rfl, SqL.of (by rw [upd_ne ee]; exact he8), hv1, acc, by rw [upd_ne eD]; exact h8, LC.small_line (by omega), ⟨x4, y7, by rw [upd_ne eD.symm]; exact upd_same, hx4, hy4, hz4⟩, ?_, acc ++ [v], upd_same, ?_, fun u hu => ?_⟩
      · rw [off_put eD, off_upd]
        exact same_put s38 nD3
      · rw [List.length_append, hal]
        rfl
      · rcases List.mem_append.mp hu with hu | hu
        · exact hav u hu
        · rw [List.mem_singleton.mp hu]
          exact hv2
    · obtain ⟨pl6, s6, acc, hacc, hal, hav⟩ := hQ
      have ho6 := s6 _ _ ho
      refine ⟨_, rfl, .inl ⟨rfl, _, SqL.of (off_at ho6).1⟩, _, rfl, p, 4, rfl, pl6, by decide, by decide, fun x5 y8 h hx5 hy5 hz5 hh0 hh1 => ?_⟩
      have pl7 : Pool (upd H6 p (.lst [.int x5, .int y8])) p := ⟨x5, y8, upd_same, hx5, hy5, hz5⟩
      have e7 : M0.off p (upd H6 p (.lst [.int x5, .int y8])) = M0.off p H6 := off_upd
      have h7 : (upd H6 p (.lst [.int x5, .int y8])) D = some (.lst acc) := by rw [upd_ne eD]; exact hacc
      generalize upd H6 p (.lst [.int x5, .int y8]) = H7 at pl7 e7 h7 ⊢
      refine ⟨_, rfl, by show 2 ≤ sizeLine; decide, fun t nt => ?_⟩
      have et : t ≠ p := pool_ne pl7 nt
      have s8 : Same H7 (upd H7 t (.tup [.int h, .ref D])) := same_new nt
      have pl8 := pool_same pl7 s8
      have h8 := s8 _ _ h7
      have ht8 : (upd H7 t (.tup [.int h, .ref D])) t = some (.tup [.int h, .ref D]) := upd_same
      have s38 : Same (M0.off p H3) (M0.off p (upd H7 t (.tup [.int h, .ref D]))) := by
        rw [← e7] at s6
        exact s6.trans (off_mono s8)
      have nt3 : M0.off p H3 t = none := by
        rw [← e7] at s6
        exact same_none s6 (off_none nt)
      generalize upd H7 t (.tup [.int h, .ref D]) = H8 at s8 pl8 h8 ht8 s38 ⊢
      have ho8 := s38 _ _ ho
      have eoD : o ≠ D := fun z => by
        rw [z, nD3] at ho
        cases ho
      have hT8 : Tns (M0.off p H8) (ts ++ [(t, D)]) (rs ++ [(h, acc)]) := Tns.snoc (t := (t, D)) (r := (h, acc)) (by rw [off_ne et]; exact ht8) (by show M0.off p H8 D = _; rw [off_ne eD]; exact h8) (hT.same s38)
      have hN2 : New (M0.off p H) o (ts ++ [(t, D)]) := fun z hz => by
        rcases List.mem_append.mp hz with mz | mz
        · exact hN z mz
        · rw [List.mem_singleton.mp mz]
          exact ⟨same_none sm nt3, same_none sm nD3, eoD.symm⟩
      refine ⟨o, _, _, rfl, rfl, (off_at ho8).1, ?_, _, _, _, ts ++ [(t, D)], rs ++ [(h, acc)], rfl, ?_, pool_put pl8 eo, ⟨?_, ?_⟩, hN2, ?_, fun r hr => ?_⟩
      · rw [List.length_map, hT.len, hl]
        exact LC.small_line (by omega)
      · rw [off_put eo]
        exact same_put (sm.trans s38) (off_none no)
      · rw [off_put eo, upd_same, map_snoc]
      · rw [off_put eo]
        exact hT8.put ho8 fun z hz => (hN2 z hz).2.2
      · rw [List.length_append, hl]
        rfl
      · rcases List.mem_append.mp hr with hr | hr
        · exact hok r hr
        · rw [List.mem_singleton.mp hr]
          refine ⟨⟨⟨h.toNat, (Int.toNat_of_nonneg hh0).symm, by omega⟩, fun z => ?_, hav⟩, ?_⟩
          · have z2 : acc = [] := z
            rw [z2] at hal
            simp at hal
            omega
          · show acc.length ≤ 6
            omega
  · obtain ⟨y2, y3, y4, ts, rs, rfl, sm, pl3, hR, hN, hl, hok⟩ := hP
    exact ⟨_, rfl, q H3 o ts rs sm pl3 hR ⟨by omega, hok⟩⟩
end
end K50

set_option maxHeartbeats 4000000
namespace K50
open PySem PySem.Spec PyProof.Rows L2 TL G3 G4 M0 EE
abbrev nBent : List Str := ["_law_pool_here", "_law_line", "_law_rows", "_law_at", "_law_odd"]
theorem scBent : FnScope nBent ["_law_pool_here", "_law_line"] (defScope sBent) := ⟨rfl, rfl, rfl, by decide +kernel, rfl, by decide +kernel, by decide +kernel⟩
/-! plain signs all through -/
theorem asc_join {y : Str} {ps : List Str} (hy : Asc y) (h : ∀ p ∈ ps, Asc p) : Asc (Txt.join y ps) := by
  intro c hc
  rw [join_eq, tl_join] at hc
  have go : ∀ qs : List (List Nat), (∀ p ∈ qs, ∀ c ∈ p, c < 128) → ∀ c ∈ joinL (tl y) qs, c < 128 := by
    intro qs
    induction qs with
    | nil => intro _ c z; cases z
    | cons p qs ih =>
      intro hp c z
      cases qs with
      | nil => exact hp p (by simp) c z
      | cons q r =>
        have z2 : c ∈ p ++ (tl y ++ joinL (tl y) (q :: r)) := z
        rcases List.mem_append.mp z2 with z3 | z3
        · exact hp p (by simp) c z3
        · rcases List.mem_append.mp z3 with z4 | z4
          · exact hy c z4
          · exact ih (fun s hs => hp s (List.mem_cons_of_mem _ hs)) c z4
  refine go _ (fun p hp c hc => ?_) c hc
  obtain ⟨w, hw, rfl⟩ := List.mem_map.mp hp
  exact h w hw c hc
theorem asc_sp : Asc " " := by
  intro c hc
  rw [tl_sp] at hc
  rw [List.mem_singleton.mp hc]
  decide
theorem asc_nl : Asc "\n" := by
  intro c hc
  rw [tl_nl] at hc
  rw [List.mem_singleton.mp hc]
  decide
theorem numL_asc (n : Nat) : ∀ c ∈ numL n, c < 128 := fun c hc => by
  have := numL_digits n c hc
  omega
theorem words_asc {r : Tn} (h : OkT r) : ∀ z ∈ wordsT r, Asc z := by
  intro z hz c hc
  obtain ⟨n, e, hn⟩ := h.hand
  rcases List.mem_cons.mp hz with rfl | hz
  · rw [head_tl e] at hc
    rcases List.mem_append.mp hc with y | y
    · exact numL_asc n c y
    · rw [List.mem_singleton.mp y]
      decide
  · obtain ⟨v, hv, rfl⟩ := List.mem_map.mp hz
    rcases wd_tl (h.all v hv) with ⟨e1, _⟩ | ⟨m, _, _, e1⟩
    · rw [e1] at hc
      rw [List.mem_singleton.mp hc]
      decide
    · rw [e1] at hc
      exact numL_asc m c hc
theorem run_asc {rs : List Tn} (h : OkR rs) : Asc (runT rs) := asc_join asc_nl fun p hp => by
  obtain ⟨r, hr, rfl⟩ := List.mem_map.mp hp
  exact asc_join asc_sp (words_asc (h.row r hr).1)
theorem run_txt {rs : List Tn} (h : OkR rs) : TxtOk (runT rs) := ⟨by have := run_len h; omega, run_asc h⟩
structure LineOk (t : Str) : Prop where
  len : t.length ≤ 300
  few : (Txt.split t "\n").length ≤ 4
  one : 1 ≤ (Txt.split t "\n").length
  row : ∀ p ∈ Txt.split t "\n", p.length ≤ 42 ∧ Asc p
theorem line_ok {rs : List Tn} (h : OkR rs) : LineOk (runT rs) := by
  have z := line_rows h
  refine ⟨(run_txt h).len, z.1, z.2.1, fun p hp => ⟨z.2.2 p hp, fun c hc => ?_⟩⟩
  have hm : tl p ∈ (Txt.split (runT rs) "\n").map tl := List.mem_map_of_mem hp
  rw [split_nl] at hm
  rcases spl_mem _ _ _ _ _ hm c hc with y | y
  · cases y
  · exact run_asc h c y
/-! parts of the rows -/
def cutR (xs : List Str) (lo hi : Option Int) : List Str := (xs.drop (HT.sIx xs.length 0 lo)).take (HT.sIx xs.length xs.length hi - HT.sIx xs.length 0 lo)
theorem cutV_map (xs : List Str) (lo hi : Option Int) : cutV (xs.map V.str) lo hi = (cutR xs lo hi).map V.str := by
  unfold cutV cutR
  rw [List.length_map, List.map_take, List.map_drop]
theorem cutR_mem {xs : List Str} {lo hi : Option Int} {z : Str} (h : z ∈ cutR xs lo hi) : z ∈ xs := List.mem_of_mem_drop (List.mem_of_mem_take h)
theorem cutR_to (xs : List Str) (k : Nat) : (cutR xs none (some (k : Int))).length ≤ k := by
  unfold cutR
  rw [List.length_take, HT.sIx_nat]
  omega
theorem cutR_from (xs : List Str) (k : Nat) : (cutR xs (some (k : Int)) none).length ≤ xs.length - k := by
  unfold cutR
  rw [List.length_take, List.length_drop, HT.sIx_nat]
  omega
def odd1 : List Str := ["", "0:", "0 1", "0: ", "0:  1", ": 1", "00: 1", "0: 01", "0: --", "0: -1", "0: 12345"]
def odd2 : List Str := ["a: 1", "0 : 1", "0: 1 ", "0:1"]
theorem odd_ok : (odd1 ++ odd2).all (fun z => decide (z.length ≤ 42) && (tl z).all fun c => decide (c < 128)) = true := by decide +kernel
theorem odd_at {m : Int} (h0 : 0 ≤ m) (h1 : m < 15) : ∃ z, atI ((odd1 ++ odd2).map V.str) m = some (.str z) ∧ z.length ≤ 42 ∧ Asc z := by
  have hl : (odd1 ++ odd2).length = 15 := rfl
  obtain ⟨k, rfl⟩ := Int.eq_ofNat_of_zero_le h0
  have hk : k < (odd1 ++ odd2).length := by omega
  refine ⟨(odd1 ++ odd2)[k], ?_, ?_⟩
  · refine atI_nat ?_
    rw [List.getElem?_map, List.getElem?_eq_getElem hk]
    rfl
  · have z := List.all_eq_true.mp odd_ok _ (List.getElem_mem hk)
    simp only [Bool.and_eq_true, decide_eq_true_eq, List.all_eq_true] at z
    exact z
section
variable {P : Program} {w : World} {K : PySem.W.Frag} {mg : Str → Option Value} {base : Heap}
def spBent : Sp := fun vs H Q _ => ∃ (p : Addr) (t : Str), vs = [.ref p, .str t] ∧ Pool H p ∧ LineOk t ∧
  ∀ H' u, Same (M0.off p H) (M0.off p H') → Pool H' p → TxtOk u → Q (.str u) H'
theorem ok_bent {f : Addr} {fd : FuncData} (F : Fun K "_law_bent" "_law_bent" sBent f fd) (T : Def P w K mg base CX0 1 "_law_take" ["_law_pool_here", "_law_many"] spTake) (ml : mg "len" = none) : FnOk P w K mg base CX0 2 f fd ["_law_pool_here", "_law_line"] spBent := by
  refine F.ok scBent (fun vs H Q E h => ?_) (fun cdv A outer s H vs Q E hr h => ?_)
  · obtain ⟨p, t, rfl, _⟩ := h
    rfl
  obtain ⟨p, t, rfl, pl, lk, q⟩ := h
  have nd := scBent.nd
  refine ⟨_, pss_cons (ps_set (i := 2) nd rfl (.inl rfl) (pe_split (pv 1) pe_str))
    (pss_cons (ps_set (i := 3) nd rfl (.inl rfl) (pe_call T.ok hr (by rfl) T.g T.kp T.b .nil pass0 (pa_cons (pv 0) (pa_cons (pe_callB call_len_seq (by rfl) ml PySem.boot_len (pa_cons (pv 2) pa_nil)) pa_nil))))
    (pss_cons (ps_set (i := 4) nd rfl (.inl rfl) (pe_lst (pa_cons pe_str (pa_cons pe_str (pa_cons pe_str (pa_cons pe_str (pa_cons pe_str (pa_cons pe_str (pa_cons pe_str (pa_cons pe_str (pa_cons pe_str (pa_cons pe_str (pa_cons pe_str pa_nil)))))))))))))
    (pss_cons (ps_set (i := 4) nd rfl (.inl rfl) (pe_op op_cat (pv 4) (pe_lst (pa_cons pe_str (pa_cons pe_str (pa_cons pe_str (pa_cons pe_str pa_nil)))))))
    (pss_one (ps_ret (pe_join pe_str (pe_op op_cat (pe_op op_cat (pe_slice sl_list (pv 2) po_none (po_some (pv 3)))
        (pe_lst (pa_cons (pe_ix ix_list (pv 4) (pe_call T.ok hr (by rfl) T.g T.kp T.b .nil pass0 (pa_cons (pv 0) (pa_cons pe_int pa_nil))) (fun _ _ => rfl)) pa_nil)))
        (pe_slice sl_list (pv 2) (po_some (pe_op op_add (pv 3) (pe_call T.ok hr (by rfl) T.g T.kp T.b .nil pass0 (pa_cons (pv 0) (pa_cons pe_int pa_nil))))) po_none)))))))), ?_⟩
  have lt := lk.len
  have l4 := lk.few
  have l1 := lk.one
  generalize er : Txt.split t "\n" = rows at l4 l1
  have hrow : ∀ z ∈ rows, z.length ≤ 42 ∧ Asc z := by
    rw [← er]
    exact lk.row
  refine ⟨_, rfl, ⟨t, rfl⟩, t, _, rfl, rfl, by decide +kernel, Nat.le_trans (by omega : t.length + 2 ≤ 1000) (by decide), fun ra nra => ?_⟩
  rw [er]
  have era : ra ≠ p := pool_ne pl nra
  have s1 : Same (M0.off p H) (M0.off p (upd H ra (.lst (rows.map V.str)))) := off_mono (same_new nra)
  have pl1 : Pool (upd H ra (.lst (rows.map V.str))) p := pool_put pl era
  have hr1 : (upd H ra (.lst (rows.map V.str))) ra = some (.lst (rows.map V.str)) := upd_same
  generalize upd H ra (.lst (rows.map V.str)) = H1 at s1 pl1 hr1 ⊢
  have hll : (((rows.map V.str).length : Nat) : Int) = rows.length := by rw [List.length_map]
  refine ⟨_, rfl, _, rfl, ra, _, rfl, .inl (SqL.of hr1), p, _, rfl, pl1, by omega, by omega, fun x1 y1 c hx1 hy1 hz1 hc0 hc1 => ?_⟩
  obtain ⟨k, rfl⟩ := Int.eq_ofNat_of_zero_le hc0
  have hk : k < rows.length := by omega
  have pl2 : Pool (upd H1 p (.lst [.int x1, .int y1])) p := ⟨x1, y1, upd_same, hx1, hy1, hz1⟩
  have s2 : Same (M0.off p H) (M0.off p (upd H1 p (.lst [.int x1, .int y1]))) := by rw [off_upd]; exact s1
  have hr2 : (upd H1 p (.lst [.int x1, .int y1])) ra = some (.lst (rows.map V.str)) := by rw [upd_ne era]; exact hr1
  generalize upd H1 p (.lst [.int x1, .int y1]) = H2 at pl2 s2 hr2 ⊢
  refine ⟨by show 11 ≤ sizeLine; decide, fun l1a n1 => ?_⟩
  have s3 : Same H2 (upd H2 l1a (.lst [V.str "", V.str "0:", V.str "0 1", V.str "0: ", V.str "0:  1", V.str ": 1", V.str "00: 1", V.str "0: 01", V.str "0: --", V.str "0: -1", V.str "0: 12345"])) := same_new n1
  have h3 : (upd H2 l1a (.lst [V.str "", V.str "0:", V.str "0 1", V.str "0: ", V.str "0:  1", V.str ": 1", V.str "00: 1", V.str "0: 01", V.str "0: --", V.str "0: -1", V.str "0: 12345"])) l1a = some (.lst (odd1.map V.str)) := upd_same
  generalize upd H2 l1a (.lst [V.str "", V.str "0:", V.str "0 1", V.str "0: ", V.str "0:  1", V.str ": 1", V.str "00: 1", V.str "0: 01", V.str "0: --", V.str "0: -1", V.str "0: 12345"]) = H3 at s3 h3 ⊢
  refine ⟨_, rfl, by show 4 ≤ sizeLine; decide, fun l2a n2 => ?_⟩
  have s4 : Same H3 (upd H3 l2a (.lst [V.str "a: 1", V.str "0 : 1", V.str "0: 1 ", V.str "0:1"])) := same_new n2
  have h4 : (upd H3 l2a (.lst [V.str "a: 1", V.str "0 : 1", V.str "0: 1 ", V.str "0:1"])) l2a = some (.lst (odd2.map V.str)) := upd_same
  generalize upd H3 l2a (.lst [V.str "a: 1", V.str "0 : 1", V.str "0: 1 ", V.str "0:1"]) = H4 at s4 h4 ⊢
  refine ⟨l1a, l2a, odd1.map V.str, odd2.map V.str, rfl, rfl, s4 _ _ h3, h4, by decide, fun od nod => ?_⟩
  have s5 : Same H4 (upd H4 od (.lst (odd1.map V.str ++ odd2.map V.str))) := same_new nod
  have h5 : (upd H4 od (.lst (odd1.map V.str ++ odd2.map V.str))) od = some (.lst ((odd1 ++ odd2).map V.str)) := upd_same
  generalize upd H4 od (.lst (odd1.map V.str ++ odd2.map V.str)) = H5 at s5 h5 ⊢
  have s25 : Same H2 H5 := s3.trans (s4.trans s5)
  have hr5 := s25 _ _ hr2
  have pl5 := pool_same pl2 s25
  have sH5 : Same (M0.off p H) (M0.off p H5) := s2.trans (off_mono s25)
  clear s5 s4 s3 h3 h4 s25 nod n1 n2
  -- what is joined
  refine ⟨⟨_, rfl⟩, _, rfl, ?_⟩
  dsimp only [tNoPart]
  refine ⟨_, rfl, k, rfl, ra, _, rfl, SqL.of hr5, fun a1 na1 => ?_⟩
  have s6 : Same H5 (upd H5 a1 (.lst (cutV (rows.map V.str) none (some (k : Int))))) := same_new na1
  have h6 : (upd H5 a1 (.lst (cutV (rows.map V.str) none (some (k : Int))))) a1 = some (.lst ((cutR rows none (some (k : Int))).map V.str)) := by rw [upd_same, cutV_map]
  generalize upd H5 a1 (.lst (cutV (rows.map V.str) none (some (k : Int)))) = H6 at s6 h6 ⊢
  have pl6 := pool_same pl5 s6
  have e1 : a1 ≠ p := pool_ne pl5 na1
  refine ⟨_, rfl, _, rfl, p, 15, rfl, pl6, by decide, by decide, fun x2 y2 m hx2 hy2 hz2 hm0 hm1 => ?_⟩
  have pl7 : Pool (upd H6 p (.lst [.int x2, .int y2])) p := ⟨x2, y2, upd_same, hx2, hy2, hz2⟩
  have eod : od ≠ p := fun z => by
    obtain ⟨x, y, h, _⟩ := pl5
    rw [z, h] at h5
    cases h5
  have h7o : (upd H6 p (.lst [.int x2, .int y2])) od = some (.lst ((odd1 ++ odd2).map V.str)) := by rw [upd_ne eod]; exact s6 _ _ h5
  have h7a : (upd H6 p (.lst [.int x2, .int y2])) a1 = some (.lst ((cutR rows none (some (k : Int))).map V.str)) := by rw [upd_ne e1]; exact h6
  have h7r : (upd H6 p (.lst [.int x2, .int y2])) ra = some (.lst (rows.map V.str)) := by rw [upd_ne era]; exact s6 _ _ hr5
  have sH7 : Same (M0.off p H) (M0.off p (upd H6 p (.lst [.int x2, .int y2]))) := by rw [off_upd]; exact sH5.trans (off_mono s6)
  generalize upd H6 p (.lst [.int x2, .int y2]) = H7 at pl7 h7o h7a h7r sH7 ⊢
  obtain ⟨z, hz, zl, za⟩ := odd_at hm0 hm1
  refine ⟨od, _, m, _, rfl, rfl, SqL.of h7o, hz, by show 1 ≤ sizeLine; decide, fun a2 na2 => ?_⟩
  have s8 : Same H7 (upd H7 a2 (.lst [.str z])) := same_new na2
  have h8 : (upd H7 a2 (.lst [.str z])) a2 = some (.lst [.str z]) := upd_same
  generalize upd H7 a2 (.lst [.str z]) = H8 at s8 h8 ⊢
  have hc1 := cutR_to rows k
  refine ⟨a1, a2, _, _, rfl, rfl, s8 _ _ h7a, h8, ?_, fun a3 na3 => ?_⟩
  · rw [List.length_map]
    exact Nat.le_trans (by show _ + 1 ≤ 5; omega) (by decide)
  have s9 : Same H8 (upd H8 a3 (.lst ((cutR rows none (some (k : Int))).map V.str ++ [.str z]))) := same_new na3
  have h9 : (upd H8 a3 (.lst ((cutR rows none (some (k : Int))).map V.str ++ [.str z]))) a3 = some (.lst ((cutR rows none (some (k : Int)) ++ [z]).map V.str)) := by
    rw [upd_same, List.map_append]
    rfl
  generalize upd H8 a3 (.lst ((cutR rows none (some (k : Int))).map V.str ++ [.str z])) = H9 at s9 h9 ⊢
  have s79 := s8.trans s9
  have pl9 := pool_same pl7 s79
  have e3 : a3 ≠ p := pool_ne (pool_same pl7 s8) na3
  refine ⟨_, rfl, _, rfl, _, rfl, p, 2, rfl, pl9, by decide, by decide, fun x3 y3 j hx3 hy3 hz3 hj0 hj1 => ?_⟩
  have pl10 : Pool (upd H9 p (.lst [.int x3, .int y3])) p := ⟨x3, y3, upd_same, hx3, hy3, hz3⟩
  have h10a : (upd H9 p (.lst [.int x3, .int y3])) a3 = some (.lst ((cutR rows none (some (k : Int)) ++ [z]).map V.str)) := by rw [upd_ne e3]; exact h9
  have h10r : (upd H9 p (.lst [.int x3, .int y3])) ra = some (.lst (rows.map V.str)) := by rw [upd_ne era]; exact s79 _ _ h7r
  have sH10 : Same (M0.off p H) (M0.off p (upd H9 p (.lst [.int x3, .int y3]))) := by rw [off_upd]; exact sH7.trans (off_mono s79)
  generalize upd H9 p (.lst [.int x3, .int y3]) = H10 at pl10 h10a h10r sH10 ⊢
  obtain ⟨j, rfl⟩ := Int.eq_ofNat_of_zero_le hj0
  have ekj : (k : Int) + (j : Int) = ((k + j : Nat) : Int) := by omega
  refine ⟨(k : Int), (j : Int), rfl, rfl, (k : Int) + (j : Int), rfl, ?_⟩
  dsimp only [tNoPart]
  rw [ekj]
  refine ⟨ra, _, rfl, SqL.of h10r, fun a4 na4 => ?_⟩
  have s11 : Same H10 (upd H10 a4 (.lst (cutV (rows.map V.str) (some ((k + j : Nat) : Int)) none))) := same_new na4
  have h11 : (upd H10 a4 (.lst (cutV (rows.map V.str) (some ((k + j : Nat) : Int)) none))) a4 = some (.lst ((cutR rows (some ((k + j : Nat) : Int)) none).map V.str)) := by rw [upd_same, cutV_map]
  generalize upd H10 a4 (.lst (cutV (rows.map V.str) (some ((k + j : Nat) : Int)) none)) = H11 at s11 h11 ⊢
  have hc2 := cutR_from rows (k + j)
  refine ⟨a3, a4, _, _, rfl, rfl, s11 _ _ h10a, h11, ?_, fun a5 na5 => ?_⟩
  · rw [List.length_map, List.length_map, List.length_append]
    exact Nat.le_trans (by show _ + 1 + _ ≤ 10; omega) (by decide)
  have s12 : Same H11 (upd H11 a5 (.lst ((cutR rows none (some (k : Int)) ++ [z]).map V.str ++ (cutR rows (some ((k + j : Nat) : Int)) none).map V.str))) := same_new na5
  have h12 : (upd H11 a5 (.lst ((cutR rows none (some (k : Int)) ++ [z]).map V.str ++ (cutR rows (some ((k + j : Nat) : Int)) none).map V.str))) a5 = some (.lst ((cutR rows none (some (k : Int)) ++ [z] ++ cutR rows (some ((k + j : Nat) : Int)) none).map V.str)) := by
    rw [upd_same, ← List.map_append]
  generalize upd H11 a5 (.lst ((cutR rows none (some (k : Int)) ++ [z]).map V.str ++ (cutR rows (some ((k + j : Nat) : Int)) none).map V.str)) = H12 at s12 h12 ⊢
  generalize eys : cutR rows none (some (k : Int)) ++ [z] ++ cutR rows (some ((k + j : Nat) : Int)) none = ys at h12
  have hyl : ys.length ≤ 5 := by
    rw [← eys, List.length_append, List.length_append]
    show _ + 1 + _ ≤ 5
    omega
  have hya : ∀ y ∈ ys, y.length ≤ 42 ∧ Asc y := by
    intro y hy
    rw [← eys] at hy
    rcases List.mem_append.mp hy with hy | hy
    · rcases List.mem_append.mp hy with hy | hy
      · exact hrow y (cutR_mem hy)
      · rw [List.mem_singleton.mp hy]
        exact ⟨zl, za⟩
    · exact hrow y (cutR_mem hy)
  have hj := join_len (y := "\n") fun y hy => (hya y hy).1
  rw [len_nl] at hj
  have hj2 : ys.length * (42 + 1) ≤ 5 * 43 := Nat.mul_le_mul_right _ hyl
  refine ⟨_, a5, ys, rfl, rfl, .inl (SqL.of h12), ?_, q H12 _ (sH10.trans (off_mono (s11.trans s12))) (pool_same pl10 (s11.trans s12)) ⟨by omega, asc_join asc_nl fun y hy => (hya y hy).2⟩⟩
  have h1 := sum_le _ fun y hy => (hya y hy).1
  rw [len_nl]
  omega
end
end K50

set_option maxHeartbeats 8000000
namespace K50
open PySem PySem.Spec PyProof.Rows L2 TL G0 G1 G3 G4 M0 EE
abbrev nLaw : List Str := ["_law_script", "_law_k", "_law_pool_here", "_law_road", "_law_kept", "_law_line", "_law_turn", "_law_found", "_law_who", "_law_choices", "_law_item"]
theorem scLaw : FnScope nLaw ["_law_script"] (defScope sLaw) := ⟨rfl, rfl, rfl, by decide +kernel, rfl, by decide +kernel, by decide +kernel⟩
structure Facts (P : Program) (w : World) (K : PySem.W.Frag) (mg : Str → Option Value) (base : Heap) where
  C : Addr
  dO : Def P w K mg base CX0 1 "_law_pool" ["_law_script", "_law_k"] (spPool K)
  dD : Def P w K mg base CX0 2 "_law_run_drawn" ["_law_pool_here"] spDrawn
  dT : Def P w K mg base CX0 1 "_law_run_text" ["_law_road"] spShown
  dS : Def P w K mg base CX0 1 "shown_run" ["run"] spShown
  dR : Def P w K mg base (L2.CX P w) 3 "read_run" ["text"] (spRead K C)
  dB : Def P w K mg base CX0 2 "_law_bent" ["_law_pool_here", "_law_line"] spBent
  dL : Def P w K mg base CX0 4 "_law_told" ["_law_line"] (spTold K)
  dU : Def P w K mg base CX0 2 "_law_due" ["_law_line"] spDue
  kS : KBinds K dS.d ["run"] ["run"] (fun us ws => us ++ ws) (fun vs zs => vs ++ zs)
  kR : KBinds K dR.d ["text"] ["text"] (fun us ws => us ++ ws) (fun vs zs => vs ++ zs)
  mlen : mg "len" = none
  mmax : mg "max" = none
  mmin : mg "min" = none
  mran : mg "range" = none
  mrep : mg "repr" = none
theorem bad_not {t : Str} {i : Nat} (g : ∀ row ∈ rowsOf t, rowOk row = true) (b : BadAt (rowsOf t) i) : False := by
  obtain ⟨_, row, h, e⟩ := b
  rw [g row (List.mem_of_getElem? h)] at e
  cases e
theorem bad_one {rows : List Str} {i j : Nat} (a : BadAt rows i) (b : BadAt rows j) : i = j := by
  obtain ⟨a1, r1, h1, e1⟩ := a
  obtain ⟨b1, r2, h2, e2⟩ := b
  rcases Nat.lt_trichotomy i j with h | h | h
  · rw [b1 i r1 h h1] at e1
    cases e1
  · exact h
  · rw [a1 j r2 h h2] at e2
    cases e2
theorem bad_lt {t : Str} (ht : TxtOk t) {i : Nat} (b : BadAt (rowsOf t) i) : i < 10000 := by
  obtain ⟨_, row, h, _⟩ := b
  have h1 := (List.getElem?_eq_some_iff.mp h).1
  have h2 := rows_len t
  have h3 := ht.len
  omega
theorem int_shows {n : Nat} (h : n < 10000) : (PyData.int (n : Nat)).showable = true ∧ (PyData.int (n : Nat)).depth ≤ 60 ∧ (PyData.int (n : Nat)).shown.length ≤ sizeLine := by
  have z := ints_nice n h
  exact ⟨nice_show z, by simp [PyData.depth], nice_fits z (by simp [PyData.bulk])⟩
theorem run_shows {rs : List Tn} (h : OkS rs) : (dR rs).showable = true ∧ (dR rs).depth ≤ 60 ∧ (dR rs).shown.length ≤ sizeLine := ⟨nice_show (dR_nice h), dR_depth rs, dR_fits h⟩
theorem read_ok {t : Str} (ht : TxtOk t) (g : ∀ row ∈ rowsOf t, rowOk row = true) : OkS ((rowsOf t).map turnOf) := read_shows ht.len (fun row hr => ⟨hr, g row hr⟩) (Nat.le_refl _)
theorem cut_init (xs : List V) (x : V) : cutV (xs ++ [x]) none (some (-1)) = xs := by
  unfold cutV
  have e1 : HT.sIx (xs ++ [x]).length (xs ++ [x]).length (some (-1)) = xs.length := by
    show (if (-1 : Int) < 0 then ((-1 : Int) + ((xs ++ [x]).length : Int)).toNat else min (-1 : Int).toNat (xs ++ [x]).length) = _
    rw [if_pos (by decide), List.length_append]
    simp only [List.length_cons, List.length_nil]
    omega
  rw [e1]
  show (xs ++ [x]).take xs.length = xs
  exact List.take_left
theorem empty_txt : TxtOk "" := ⟨by decide, fun c hc => by rw [tl_empty] at hc; cases hc⟩
theorem empty_rows : rowsOf "" = [] := if_pos rfl
theorem ok_nil : OkR [] := ⟨by decide, fun _ z => (nomatch z)⟩
theorem run_nil : runT [] = "" := (run_empty ok_nil).mpr rfl
/-- what was read, changed at will -/
def Loose (H : Hp) (us : List (Addr × Addr)) (m : Nat) : Prop := ∀ t ∈ us, ∃ (n : Int) (ys : List V), H t.1 = some (.tup [.int n, .ref t.2]) ∧ H t.2 = some (.lst ys) ∧ ys.length ≤ m
theorem Loose.same {H H' : Hp} {us : List (Addr × Addr)} {m : Nat} (h : Loose H us m) (s : Same H H') : Loose H' us m := fun t ht => by
  obtain ⟨n, ys, h1, h2, h3⟩ := h t ht
  exact ⟨n, ys, s _ _ h1, s _ _ h2, h3⟩
theorem Loose.grow {H : Hp} {us : List (Addr × Addr)} {m : Nat} {q : Addr} {zs : List V} {x : V} (h : Loose H us m) (hq : H q = some (.lst zs)) (hl : zs.length ≤ m) : Loose (upd H q (.lst (zs ++ [x]))) us (m + 1) := fun t ht => by
  obtain ⟨n, ys, h1, h2, h3⟩ := h t ht
  have e1 : t.1 ≠ q := ne_of h1 hq (by intro z; cases z)
  by_cases e : t.2 = q
  · refine ⟨n, zs ++ [x], by rw [upd_ne e1]; exact h1, by rw [e]; exact upd_same, ?_⟩
    rw [List.length_append]
    show zs.length + 1 ≤ _
    omega
  · exact ⟨n, ys, by rw [upd_ne e1]; exact h1, by rw [upd_ne e]; exact h2, by omega⟩
theorem race_loose {H : Hp} {q : Addr} {us : List (Addr × Addr)} {rs : List Tn} (h : RaceAt H q us rs) (ok : OkR rs) : Loose H us 6 := fun t ht => by
  obtain ⟨r, hr, h1, h2⟩ := h.2.mem ht
  exact ⟨r.1, r.2, h1, h2, (ok.row r hr).2⟩
section
variable {P : Program} {w : World} {K : PySem.W.Frag} {mg : Str → Option Value} {base : Heap}
theorem law_body (X : Facts P w K mg base) {fa : Addr} {cdv : Value} {s : Shared} {H : Hp} {a : Addr} {ns : List Int} (hS : SqL K H a (ns.map V.int)) (hl : ns.length ≤ 63)
    (hr : Room 4 (callerA.deeper (envOfC "law" (defScope sLaw) s.heap.objs.size fa cdv))) :
    ∃ t, PSs (cxOf CX0 P w K mg base nLaw "law" (defScope sLaw) fa cdv callerA [] s H (fun _ _ _ => False)).nox (defBody sLaw) t ∧ t { nx := fun _ _ => False, rt := fun v _ => v = .bl true } (start nLaw [.ref a]) H := by
  have nd := scLaw.nd
  have hr1 := hr.mono (show 1 ≤ 4 by decide)
  have hr2 := hr.mono (show 2 ≤ 4 by decide)
  have hr3 := hr.mono (show 3 ≤ 4 by decide)
  refine ⟨_, pss_cons (ps_for PassesOwn.never rfl (pi_range1 (by rfl) X.mran (pa_cons (pe_callB (call_max2 rfl) (by rfl) X.mmax (by decide +kernel) (pa_cons pe_int (pa_cons (pe_callB (call_min2 rfl) (by rfl) X.mmin (by decide +kernel) (pa_cons pe_int (pa_cons (pe_callB call_len_seq (by rfl) X.mlen PySem.boot_len (pa_cons (pv 0) pa_nil)) pa_nil))) pa_nil))) pa_nil)) (pg_name (i := 1) nd rfl (.inl rfl))
      (pss_cons (ps_set (i := 2) nd rfl (.inl rfl) (pe_call X.dO.ok hr1 (by rfl) X.dO.g X.dO.kp X.dO.b .nil pass0 (pa_cons (pv 0) (pa_cons (pv 1) pa_nil))))
      (pss_cons (ps_set (i := 3) nd rfl (.inl rfl) (pe_call X.dD.ok hr2 (by rfl) X.dD.g X.dD.kp X.dD.b .nil pass0 (pa_cons (pv 2) pa_nil)))
      (pss_cons (ps_set (i := 4) nd rfl (.inl rfl) (pe_callB (call_reprD rfl hr.units) (by rfl) X.mrep (by decide +kernel) (pa_cons (pv 3) pa_nil)))
      (pss_cons (ps_set (i := 5) nd rfl (.inl rfl) (pe_call X.dT.ok hr1 (by rfl) X.dT.g X.dT.kp X.dT.b .nil pass0 (pa_cons (pv 3) pa_nil)))
      (pss_cons (ps_for PassesOwn.never rfl (pi_range1 (by rfl) X.mran (pa_cons pe_int pa_nil)) (pg_name (i := 6) nd rfl (.inl rfl))
        (pss_cons (ps_set (i := 7) nd rfl (.inl rfl) (pe_call X.dR.ok hr3 (by rfl) X.dR.g X.dR.kp X.dR.b .nil passL (pa_cons (pv 5) pa_nil)))
        (pss_cons (ps_if (PW.pt (pw_or (pt_cmpR op_ne (pe_call X.dS.ok hr1 (by rfl) X.dS.g X.dS.kp X.dS.b .nil pass0 (pa_cons (pv 3) pa_nil)) (pv 5) (nomark _))
            (pw_or (pt_cmpR op_ne (pe_callB (call_reprD rfl hr.units) (by rfl) X.mrep (by decide +kernel) (pa_cons (pv 7) pa_nil)) (pv 4) (nomark _))
            (pw_or1 (pt_cmpR op_ne (pe_callB (call_reprD rfl hr.units) (by rfl) X.mrep (by decide +kernel) (pa_cons (pv 3) pa_nil)) (pv 4) (nomark _))))))
          (pss_one (ps_ret pe_bl)) pss_nil)
        (pss_cons (ps_expr (pe_bm PySem.F.plainAttrs_list PySem.F.slot_list_append PySem.F.type_list_append mt_append (pv 7) (pa_cons pe_non pa_nil)))
        (pss_one (ps_for PassesOwn.never rfl (pi_list (pe_slice sl_list (pv 7) po_none (po_some (pe_un un_neg pe_int)))) (pg_tup rfl (pgs_cons (pg_name (i := 8) nd rfl (.inl rfl)) (pgs_cons (pg_name (i := 9) nd rfl (.inl rfl)) pgs_nil)))
          (pss_one (ps_expr (pe_bm PySem.F.plainAttrs_list PySem.F.slot_list_append PySem.F.type_list_append mt_append (pv 9) (pa_cons pe_non pa_nil)))))))))
      )
      (pss_cons (ps_if (pt_cmpR op_ne (pe_named X.dS.ok hr1 (by rfl) X.dS.g X.dS.kp X.kS pass0 (pk_cons (pe_named X.dR.ok hr3 (by rfl) X.dR.g X.dR.kp X.kR passL (pk_cons (pv 5) pk_nil)) pk_nil)) (pv 5) (nomark _))
        (pss_one (ps_ret pe_bl)) pss_nil)
      (pss_cons (ps_for PassesOwn.never rfl (pi_range1 (by rfl) X.mran (pa_cons pe_int pa_nil)) (pg_name (i := 6) nd rfl (.inl rfl))
        (pss_cons (ps_set (i := 10) nd rfl (.inl rfl) (pe_call X.dB.ok hr2 (by rfl) X.dB.g X.dB.kp X.dB.b .nil pass0 (pa_cons (pv 2) (pa_cons (pv 5) pa_nil))))
        (pss_one (ps_if (pt_cmpR op_ne (pe_callB (call_reprD rfl hr.units) (by rfl) X.mrep (by decide +kernel) (pa_cons (pe_call X.dL.ok hr (by rfl) X.dL.g X.dL.kp X.dL.b .nil pass0 (pa_cons (pv 10) pa_nil)) pa_nil)) (pe_callB (call_reprD rfl hr.units) (by rfl) X.mrep (by decide +kernel) (pa_cons (pe_call X.dU.ok hr2 (by rfl) X.dU.g X.dU.kp X.dU.b .nil pass0 (pa_cons (pv 10) pa_nil)) pa_nil)) (nomark _))
          (pss_one (ps_ret pe_bl)) pss_nil))))
      (pss_one (ps_for PassesOwn.never rfl (pi_list (pe_lst (pa_cons pe_non (pa_cons pe_int (pa_cons (pe_lst pa_nil) (pa_cons (pe_tup (pa_cons (pv 5) pa_nil)) (pa_cons pe_bl pa_nil))))))) (pg_name (i := 10) nd rfl (.inl rfl))
        (pss_one (ps_if (pt_cmpR op_ne (pe_call X.dL.ok hr (by rfl) X.dL.g X.dL.kp X.dL.b .nil pass0 (pa_cons (pv 10) pa_nil)) pe_int (nomark _))
          (pss_one (ps_ret pe_bl)) pss_nil)))))))))))
    )
    (pss_one (ps_ret (pe_and (pe_cmpR (op_eqD hr.units) (pe_call X.dR.ok hr3 (by rfl) X.dR.g X.dR.kp X.dR.b .nil passL (pa_cons pe_str pa_nil)) (pe_lst pa_nil) (nomark _))
      (pe_one (pe_cmpR op_eq (pe_call X.dS.ok hr1 (by rfl) X.dS.g X.dS.kp X.dS.b .nil pass0 (pa_cons (pe_lst pa_nil) pa_nil)) pe_str (nomark _)))))), ?_⟩
  have sz2 : 2 ≤ sizeLine := by decide
  refine ⟨_, rfl, a, _, rfl, .inl hS, _, _, rfl, _, _, rfl, ?_⟩
  obtain ⟨n, en, hn⟩ : ∃ n : Nat, (if (if ((ns.map V.int).length : Int) < (12 : Int) then ((ns.map V.int).length : Int) else (12 : Int)) > 1 then (if ((ns.map V.int).length : Int) < (12 : Int) then ((ns.map V.int).length : Int) else (12 : Int)) else 1) = (n : Int) ∧ n ≤ 12 := by
    refine ⟨(if (if ((ns.map V.int).length : Int) < (12 : Int) then ((ns.map V.int).length : Int) else (12 : Int)) > 1 then (if ((ns.map V.int).length : Int) < (12 : Int) then ((ns.map V.int).length : Int) else (12 : Int)) else 1).toNat, ?_, ?_⟩ <;> (split <;> split <;> omega)
  refine ⟨(n : Int), congrArg (fun z => [V.int z]) en, by omega, by omega, ?_⟩
  rw [show ((n : Int)).toNat = n from Int.toNat_natCast n]
  refine for_range (n := n) (fun i σ H3 => ∃ y1 y2 y3 y4 y5 y6 y7 y8 y9 y10, σ = [some (.ref a), y1, y2, y3, y4, y5, y6, y7, y8, y9, y10] ∧ SqL K H3 a (ns.map V.int))
    ⟨none, none, none, none, none, none, none, none, none, none, rfl, hS⟩ (fun i σ H1 hi hP => ?_) (fun σ H3 hP => ?_)
  · obtain ⟨y1, y2, y3, y4, y5, y6, y7, y8, y9, y10, rfl, hS1⟩ := hP
    refine ⟨_, rfl, _, rfl, a, ns, i, congrArg (fun z : Int => [V.ref a, V.int z]) (Int.zero_add (i : Int)), hS1, by omega, fun p x0 y0 np hx0 hy0 hy20 => ?_⟩
    have pl : Pool (upd H1 p (.lst [.int x0, .int y0])) p := ⟨x0, y0, upd_same, hx0, hy0, hy20⟩
    have sO : Same H1 (M0.off p (upd H1 p (.lst [.int x0, .int y0]))) := off_new np
    generalize upd H1 p (.lst [.int x0, .int y0]) = H2 at pl sO ⊢
    -- the run drawn
    refine ⟨_, rfl, p, rfl, pl, fun H3 o ts rs s3 pl3 hR0 ok => ?_⟩
    have hR3 : RaceAt H3 o ts rs := hR0.same off_sub
    have sA : Same H1 (M0.off p H3) := sO.trans s3
    have shw := run_shows ok.shows
    refine ⟨_, rfl, .ref o, dR rs, rfl, race_dp hR3 ok.shows, shw.1, shw.2.1, shw.2.2, ?_⟩
    refine ⟨_, rfl, o, ts, rs, rfl, hR3, ok, fun H4 s4 => ?_⟩
    have hR4 := hR3.same s4
    have pl4 := pool_same pl3 s4
    have sB : Same H1 (M0.off p H4) := sA.trans (off_mono s4)
    clear sO s3 sA pl3 hR0 hR3 s4 pl
    have back := run_back ok
    have txt := run_txt ok
    -- read back, twice
    refine ⟨2, rfl, by decide, by decide, for_range (n := 2) (fun i' σ H6 => ∃ w6 w7 w8 w9, σ = [some (.ref a), some (.int (0 + (i : Int))), some (.ref p), some (.ref o), some (.str (dR rs).shown), some (.str (runT rs)), w6, w7, w8, w9, y10] ∧ Same H4 H6)
      ⟨y6, y7, y8, y9, rfl, Same.refl _⟩ (fun i' σ H6 hi' hP => ?_) (fun σ H6 hP => ?_)⟩
    · obtain ⟨w6, w7, w8, w9, rfl, sm⟩ := hP
      refine ⟨_, rfl, .str (runT rs), rfl, .inr ⟨runT rs, rfl, txt, fun _ H7 q us s7 nq hRq hNq => ?_, fun j hb => (bad_not back.1 hb).elim⟩⟩
      rw [back.2] at hRq
      refine ⟨_, rfl, o, ts, rs, rfl, hR4.same (sm.trans s7), ok, fun H8 s8 => ⟨_, rfl, rfl, _, rfl, iteNS rfl ?_⟩⟩
      have hRq8 := hRq.same s8
      refine ⟨_, rfl, .ref q, dR rs, rfl, race_dp hRq8 ok.shows, shw.1, shw.2.1, shw.2.2, _, rfl, rfl, _, rfl, iteNS rfl ?_⟩
      refine ⟨_, rfl, .ref o, dR rs, rfl, race_dp (hR4.same (sm.trans (s7.trans s8))) ok.shows, shw.1, shw.2.1, shw.2.2, _, rfl, rfl, _, rfl, iteNS rfl ?_⟩
      -- what was told is changed
      have hlu : us.length ≤ 4 := by rw [hRq.2.len]; exact ok.len
      refine ⟨_, rfl, .inl ⟨rfl, _, SqL.of hRq8.1⟩, q, _, _, rfl, rfl, hRq8.1, ?_, ?_⟩
      · rw [List.length_map]
        exact LC.small_line (by omega)
      have lo8 : Loose H8 us 6 := race_loose hRq8 ok
      have neq : ∀ t ∈ us, t.2 ≠ q := fun t ht => (hNq t ht).2.2
      have lo9 : Loose (upd H8 q (.lst ((us.map fun t => V.ref t.1) ++ [.non]))) us 6 := fun t ht => by
        obtain ⟨m, ys, g1, g2, g3⟩ := lo8 t ht
        exact ⟨m, ys, by rw [upd_ne (ne_of g1 hRq8.1 (by intro z; cases z))]; exact g1, by rw [upd_ne (neq t ht)]; exact g2, g3⟩
      have s69 : Same H6 (upd H8 q (.lst ((us.map fun t => V.ref t.1) ++ [.non]))) := same_put (s7.trans s8) nq
      have h9 : (upd H8 q (.lst ((us.map fun t => V.ref t.1) ++ [.non]))) q = some (.lst ((us.map fun t => V.ref t.1) ++ [.non])) := upd_same
      generalize upd H8 q (.lst ((us.map fun t => V.ref t.1) ++ [.non])) = H9 at lo9 s69 h9 ⊢
      refine ⟨_, rfl, ?_⟩
      dsimp only [tNoPart]
      refine ⟨1, rfl, -1, rfl, q, _, rfl, SqL.of h9, fun c nc => ?_⟩
      have s10 : Same H9 (upd H9 c (.lst (cutV ((us.map fun t => V.ref t.1) ++ [.non]) none (some (-1))))) := same_new nc
      have h10 : (upd H9 c (.lst (cutV ((us.map fun t => V.ref t.1) ++ [.non]) none (some (-1))))) c = some (.lst (us.map fun t => V.ref t.1)) := by rw [upd_same, cut_init]
      generalize upd H9 c (.lst (cutV ((us.map fun t => V.ref t.1) ++ [.non]) none (some (-1)))) = H10 at s10 h10 ⊢
      have ncu : ∀ t ∈ us, t.2 ≠ c := fun t ht => by
        obtain ⟨_, _, _, g2, _⟩ := lo9 t ht
        exact ne_of_none g2 nc
      refine ⟨c, rfl, ⟨_, SqL.of h10⟩, for_list (D := { nx := fun σ H6 => ∃ w6 w7 w8 w9, σ = [some (.ref a), some (.int (0 + (i : Int))), some (.ref p), some (.ref o), some (.str (dR rs).shown), some (.str (runT rs)), w6, w7, w8, w9, y10] ∧ Same H4 H6, rt := fun v _ => v = .bl true }) (xs := us.map fun t => V.ref t.1) (fun j σ H11 => ∃ v8 v9, σ = [some (.ref a), some (.int (0 + (i : Int))), some (.ref p), some (.ref o), some (.str (dR rs).shown), some (.str (runT rs)), some (.int (0 + (i' : Int))), some (.ref q), v8, v9, y10] ∧ Same H6 H11 ∧ H11 c = some (.lst (us.map fun t => V.ref t.1)) ∧ Loose H11 us (6 + j))
        ⟨w8, w9, rfl, s69.trans s10, h10, lo9.same s10⟩ (fun j σ H11 _ hQ => ?_) (fun j x σ H11 hx hQ => ?_) (fun σ H11 hQ => ?_)⟩
      · obtain ⟨_, _, _, _, h, _⟩ := hQ
        exact SqL.of h
      · obtain ⟨v8, v9, rfl, s11, h11, lo11⟩ := hQ
        have hj : j < us.length := by
          have := (List.getElem?_eq_some_iff.mp hx).1
          rw [List.length_map] at this
          exact this
        rw [List.getElem?_map] at hx
        obtain ⟨t, ht, rfl⟩ := Option.map_eq_some_iff.mp hx
        have mt := List.mem_of_getElem? ht
        obtain ⟨m, ys, g1, g2, g3⟩ := lo11 t mt
        refine ⟨t.1, _, rfl, SqT.of g1, rfl, _, _, rfl, _, _, rfl, rfl, ?_⟩
        refine ⟨_, rfl, .inl ⟨rfl, _, SqL.of g2⟩, t.2, _, _, rfl, rfl, g2, LC.small_line (by omega), _, _, rfl, same_put s11 (hNq t mt).2.1, ?_, lo11.grow g2 g3⟩
        rw [upd_ne (ncu t mt).symm]
        exact h11
      · obtain ⟨v8, v9, rfl, s11, _, _⟩ := hQ
        exact ⟨_, _, _, _, rfl, sm.trans s11⟩
    obtain ⟨w6, w7, w8, w9, rfl, sm⟩ := hP
    -- by names
    refine ⟨_, rfl, .str (runT rs), rfl, .inr ⟨runT rs, rfl, txt, fun _ H7 q us s7 nq hRq hNq => ?_, fun j hb => (bad_not back.1 hb).elim⟩⟩
    rw [back.2] at hRq
    refine ⟨q, us, rs, rfl, hRq, ok, fun H8 s8 => ⟨_, rfl, rfl, _, rfl, iteNS rfl ?_⟩⟩
    have s48 : Same H4 H8 := sm.trans (s7.trans s8)
    have pl8 := pool_same pl4 s48
    have sC : Same H1 (M0.off p H8) := sB.trans (off_mono s48)
    clear s48 hRq hNq s7 s8 sm sB pl4 nq hR4
    -- bent
    refine ⟨6, rfl, by decide, by decide, for_range (n := 6) (fun i' σ H9 => ∃ v6 v10, σ = [some (.ref a), some (.int (0 + (i : Int))), some (.ref p), some (.ref o), some (.str (dR rs).shown), some (.str (runT rs)), v6, w7, w8, w9, v10] ∧ Same H1 (M0.off p H9) ∧ Pool H9 p)
      ⟨w6, y10, rfl, sC, pl8⟩ (fun i' σ H9 hi' hP => ?_) (fun σ H9 hP => ?_)⟩
    · obtain ⟨v6, v10, rfl, sD, pl9⟩ := hP
      refine ⟨_, rfl, _, rfl, p, runT rs, rfl, pl9, line_ok ok, fun H10 u s10 pl10 tk => ?_⟩
      have sE : Same H1 (M0.off p H10) := sD.trans s10
      refine ⟨_, rfl, .str u, rfl, .inr ⟨u, rfl, tk, fun g H11 q us s11 hRq => ?_, fun j hb H11 s11 => ?_⟩⟩
      · have oks := read_ok tk g
        have sh := run_shows oks
        refine ⟨.ref q, _, rfl, race_dp hRq oks, sh.1, sh.2.1, sh.2.2, ?_⟩
        refine ⟨_, rfl, u, rfl, tk, fun _ H12 q2 us2 s12 hRq2 => ?_, fun j hb => (bad_not g hb).elim⟩
        refine ⟨.ref q2, _, rfl, race_dp hRq2 oks, sh.1, sh.2.1, sh.2.2, rfl, _, rfl, iteNS rfl ?_⟩
        exact ⟨_, _, rfl, sE.trans (off_mono (s11.trans s12)), pool_same pl10 (s11.trans s12)⟩
      · have sh := int_shows (bad_lt tk hb)
        refine ⟨.int (j : Nat), .int (j : Nat), rfl, .int _, sh.1, sh.2.1, sh.2.2, ?_⟩
        refine ⟨_, rfl, u, rfl, tk, fun g => (bad_not g hb).elim, fun j2 hb2 H12 s12 => ?_⟩
        rw [bad_one hb2 hb]
        refine ⟨.int (j : Nat), .int (j : Nat), rfl, .int _, sh.1, sh.2.1, sh.2.2, rfl, _, rfl, iteNS rfl ?_⟩
        exact ⟨_, _, rfl, sE.trans (off_mono (s11.trans s12)), pool_same pl10 (s11.trans s12)⟩
    obtain ⟨v6, v10, rfl, sD, pl9⟩ := hP
    -- no texts
    refine ⟨Nat.zero_le _, fun l nl => ⟨_, rfl, by show 1 ≤ sizeLine; decide, fun t nt => ⟨by show 5 ≤ sizeLine; decide, fun c nc => ?_⟩⟩⟩
    have z1 : Same H9 (upd H9 l (.lst [])) := same_new nl
    have z2 : Same (upd H9 l (.lst [])) (upd (upd H9 l (.lst [])) t (.tup [.str (runT rs)])) := same_new nt
    have z3 : Same (upd (upd H9 l (.lst [])) t (.tup [.str (runT rs)])) (upd (upd (upd H9 l (.lst [])) t (.tup [.str (runT rs)])) c (.lst [.non, .int 5, .ref l, .ref t, .bl true])) := same_new nc
    have hc : (upd (upd (upd H9 l (.lst [])) t (.tup [.str (runT rs)])) c (.lst [.non, .int 5, .ref l, .ref t, .bl true])) c = some (.lst [.non, .int 5, .ref l, .ref t, .bl true]) := upd_same
    have hd : ∀ x ∈ [V.non, .int 5, .ref l, .ref t, .bl true], ∃ d, Dp K (upd (upd (upd H9 l (.lst [])) t (.tup [.str (runT rs)])) c (.lst [.non, .int 5, .ref l, .ref t, .bl true])) x d ∧ isStr d = false := by
      intro x hx
      rcases List.mem_cons.mp hx with rfl | hx
      · exact ⟨_, .non, rfl⟩
      rcases List.mem_cons.mp hx with rfl | hx
      · exact ⟨_, .int _, rfl⟩
      rcases List.mem_cons.mp hx with rfl | hx
      · exact ⟨_, .lst (SqL.of (z3 _ _ (z2 _ _ upd_same))) .nil, rfl⟩
      rcases List.mem_cons.mp hx with rfl | hx
      · exact ⟨_, .tup (SqT.of (z3 _ _ upd_same)) (.cons (.str _) .nil), rfl⟩
      rw [List.mem_singleton.mp hx]
      exact ⟨_, .bl _, rfl⟩
    have s910 := z1.trans (z2.trans z3)
    generalize upd (upd (upd H9 l (.lst [])) t (.tup [.str (runT rs)])) c (.lst [.non, .int 5, .ref l, .ref t, .bl true]) = H10 at hc hd s910 ⊢
    refine ⟨c, rfl, ⟨_, SqL.of hc⟩, for_list (xs := [V.non, .int 5, .ref l, .ref t, .bl true]) (fun j σ H11 => ∃ u10, σ = [some (.ref a), some (.int (0 + (i : Int))), some (.ref p), some (.ref o), some (.str (dR rs).shown), some (.str (runT rs)), v6, w7, w8, w9, u10] ∧ Same H10 H11)
      ⟨v10, rfl, Same.refl _⟩ (fun j σ H11 _ hQ => ?_) (fun j x σ H11 hx hQ => ?_) (fun σ H11 hQ => ?_)⟩
    · obtain ⟨_, _, s11⟩ := hQ
      exact SqL.of (s11 _ _ hc)
    · obtain ⟨u10, rfl, s11⟩ := hQ
      obtain ⟨d, hdx, nos⟩ := hd x (List.mem_of_getElem? hx)
      exact ⟨_, rfl, x, rfl, .inl ⟨d, dp_same s11 _ _ hdx, nos, fun H12 s12 => ⟨rfl, _, rfl, iteNS rfl ⟨_, rfl, s11.trans s12⟩⟩⟩⟩
    · obtain ⟨u10, rfl, s11⟩ := hQ
      exact ⟨_, _, _, _, _, _, _, _, _, _, rfl, off_sub.seq ((sD.trans (off_mono (s910.trans s11))).seq hS1)⟩
  · obtain ⟨y1, y2, y3, y4, y5, y6, y7, y8, y9, y10, rfl, hS1⟩ := hP
    refine ⟨.str "", rfl, .inr ⟨"", rfl, empty_txt, fun _ H4 q us s4 nq hRq hNq => ?_, fun j hb => ?_⟩⟩
    · rw [empty_rows] at hRq
      have hRq0 : RaceAt H4 q us [] := hRq
      refine ⟨Nat.zero_le _, fun e ne => ?_⟩
      have z1 : Same H4 (upd H4 e (.lst [])) := same_new ne
      refine ⟨_, _, race_dp (hRq0.same z1) ok_nil.shows, .lst (SqL.of upd_same) .nil, dR_shaped ok_nil.shows, nil_shaped, true, ?_, ?_⟩
      · rfl
      refine iteT ⟨Nat.zero_le _, fun e2 ne2 => ⟨e2, [], [], rfl, ⟨upd_same, .nil⟩, ok_nil, fun H5 s5 => ⟨rfl, ?_⟩⟩⟩
      show V.bl (decide (V.str (runT []) = V.str "")) = V.bl true
      rw [run_nil, decide_eq_true rfl]
    · rw [empty_rows] at hb
      obtain ⟨_, row, h, _⟩ := hb
      cases h
end
end K50

set_option maxHeartbeats 8000000
namespace K50
open PySem PySem.Spec PyProof.Rows L2 TL G0 G1 G3 G4 M0 EE E2 E3 E4 E5 E7 E8 E9 EB EC
theorem named1 {K : PySem.W.Frag} {x z : Str} {st : Stmt} {f : Addr} {fd : FuncData} (F : Fun K x x st f fd) (h : ∀ (oc : Value) (od : Option Addr) (kV doc pm cdv ct : Value) (an : Option Addr) (s : Shared) (v : Value), fd = PySem.W.fnOf x x (defArgs st) (defBody st) (defScope st) .none kV doc pm an cdv ct → BindsTo s fd ⟨[v], []⟩ [(z, v)] ∧ BindsTo s fd ⟨[], [(z, v)]⟩ [(z, v)]) : KBinds K fd [z] [z] (fun us ws => us ++ ws) (fun vs zs => vs ++ zs) := by
  obtain ⟨oc, od, kV, doc, pm, an, cdv, ct, osl, e, lk, hcd⟩ := F.ex
  refine ⟨fun s us ws _ hl => ?_, fun r1 r2 => r1.append r2⟩
  match us, ws, hl with
  | [], [v], _ => exact (h oc od kV doc pm cdv ct an s v e).2
  | [v], [], _ => exact (h oc od kV doc pm cdv ct an s v e).1
  | [], [], h => simp at h
  | _ :: _ :: _, _, h => simp at h
  | [_], _ :: _, h => simp at h
  | [], _ :: _ :: _, h => simp at h
section
variable {P : Program} {w : World} {K : PySem.W.Frag} {mg : Str → Option Value} {base h : Heap} {C fI : Addr} {fd : FuncData}
theorem scNo : InitScope ["self", "row"] ["self", "row"] (defScope sInit) := ⟨rfl, rfl, rfl, by decide +kernel, rfl, by decide +kernel, by decide +kernel, by decide +kernel, rfl, rfl⟩
theorem mkNo (X : K.In h) (G : h.Ns mainGlobals mg) (ms : PySem.W.nsIn K mainGlobals "super" = some none) (a : PySem.W.nsIn K mainGlobals "NoText" = some (some (.ref C))) (l : lookC K C fI "ValueError" "ValueError.__new__" "ValueError.__init__" [.type "ValueError", .type "Exception", .type "BaseException", .type "object"] ["row"] = true)
    (F : InitFn P K C fI "NoText.__init__" (defArgs sInit) (defBody sInit) (defScope sInit) fd) : Nonempty (Err P w K mg base "NoText" ["row"]) := by
  obtain ⟨T, E, fl⟩ := looked uValue l
  have F0 := F
  obtain ⟨oc, kV, doc, pm, cdv, ct, od, an, osl, cl, cc, ocl, occ, fv, file, tf, efd, _⟩ := F.ex
  subst efd
  have s0 := PySem.W.mg_none_of X G ms
  refine ⟨Err.mk C fI (fnCl "__init__" "NoText.__init__" (defArgs sInit) (defBody sInit) (defScope sInit) kV doc pm an cdv ct cl) _ _ _ _ _ (PySem.W.mg_of X G a) T E ?_ (fun f hf => (fl f hf).2) ?_ ?_⟩
  · exact ok1 T F0 scNo rfl rfl s0 ⟨fun L => ⟨_, rfl⟩, fun L => rfl, fun L => rfl⟩ (nmOk (by decide)) (fl "row" (by simp)).1
  · exact ⟨fun s us ws _ hl => match us, hl with | [a, b0], _ => .of_eq rfl, fun r _ => r⟩
  · exact ⟨fun s us ws _ hl => match us, ws, hl with | [a], w0 :: _, _ => .of_eq rfl | [a], [], h => by simp [kwG] at h | [], _, h => by simp [kwG] at h | _ :: _ :: _, _, h => by simp [kwG] at h, kw_rel⟩
end
theorem all_mk {P : Program} {w : World} {K : PySem.W.Frag} {h : Heap} {mg : Str → Option Value} {tk : Tok} {fa C fI fF fS fW fR fK fO fD fX fN fU fL fB fZ : Addr} (X : K.In h) (G : h.Ns mainGlobals mg) (hfa : mg "law" = some (.ref fa))
    (qC : CAt P K "NoText" "NoText.__init__" sInit "ValueError" "ValueError.__new__" "ValueError.__init__" [.type "ValueError", .type "Exception", .type "BaseException", .type "object"] ["row"] C fI) (xm : PySem.W.exmOne K (.ref C) (.ref C) = some true) (aM : PySem.W.nsIn K mainGlobals "MOST_FIGURES" = some (some (.int 4 tk)))
    (aF : At K "is_figures" sFig fF) (aS : At K "shown_run" sShown fS) (aW : At K "is_turn_row" sTurn fW) (aR : At K "read_run" sRead fR) (aK : At K "_law_take" sTake fK) (aO : At K "_law_pool" sPool fO) (aD : At K "_law_run_drawn" sDrawn fD) (aX : At K "_law_run_text" sText fX) (aN : At K "_law_is_number" sNum fN) (aU : At K "_law_due" sDue fU) (aL : At K "_law_told" sTold fL) (aB : At K "_law_bent" sBent fB) (aZ : At K "law" sLaw fZ)
    (z0 : PySem.W.nsIn K mainGlobals "len" = some none) (z1 : PySem.W.nsIn K mainGlobals "max" = some none) (z2 : PySem.W.nsIn K mainGlobals "min" = some none) (z3 : PySem.W.nsIn K mainGlobals "range" = some none) (z4 : PySem.W.nsIn K mainGlobals "repr" = some none) (z5 : PySem.W.nsIn K mainGlobals "isinstance" = some none) (z6 : PySem.W.nsIn K mainGlobals "int" = some none) (z7 : PySem.W.nsIn K mainGlobals "str" = some none) (z8 : PySem.W.nsIn K mainGlobals "all" = some none) (z9 : PySem.W.nsIn K mainGlobals "enumerate" = some none) (z10 : PySem.W.nsIn K mainGlobals "abs" = some none) (z11 : PySem.W.nsIn K mainGlobals "super" = some none) :
    LawDef P w K mg 4 fa "_law_script" (fun H a ns => SqL K H a (ns.map V.int) ∧ ns.length ≤ 63) := by
  have e := hfa.symm.trans (PySem.W.mg_of X G aZ.1)
  cases e
  obtain ⟨dF, FF⟩ := aF.fn
  obtain ⟨dS, FS⟩ := aS.fn
  obtain ⟨dW, FW⟩ := aW.fn
  obtain ⟨dR, FR⟩ := aR.fn
  obtain ⟨dK, FK⟩ := aK.fn
  obtain ⟨dO, FO⟩ := aO.fn
  obtain ⟨dD, FD⟩ := aD.fn
  obtain ⟨dX, FX⟩ := aX.fn
  obtain ⟨dN, FN⟩ := aN.fn
  obtain ⟨dU, FU⟩ := aU.fn
  obtain ⟨dL, FL⟩ := aL.fn
  obtain ⟨dB, FB⟩ := aB.fn
  have bF := FF.binds (ps := ["word"]) fun _ _ _ _ _ _ us hl => match us, hl with | [_], _ => rfl
  have bS := FS.binds (ps := ["run"]) fun _ _ _ _ _ _ us hl => match us, hl with | [_], _ => rfl
  have bW := FW.binds (ps := ["words"]) fun _ _ _ _ _ _ us hl => match us, hl with | [_], _ => rfl
  have bR := FR.binds (ps := ["text"]) fun _ _ _ _ _ _ us hl => match us, hl with | [_], _ => rfl
  have bK := FK.binds (ps := ["_law_pool_here", "_law_many"]) fun _ _ _ _ _ _ us hl => match us, hl with | [_, _], _ => rfl
  have bO := FO.binds (ps := ["_law_script", "_law_k"]) fun _ _ _ _ _ _ us hl => match us, hl with | [_, _], _ => rfl
  have bD := FD.binds (ps := ["_law_pool_here"]) fun _ _ _ _ _ _ us hl => match us, hl with | [_], _ => rfl
  have bX := FX.binds (ps := ["_law_road"]) fun _ _ _ _ _ _ us hl => match us, hl with | [_], _ => rfl
  have bN := FN.binds (ps := ["_law_word"]) fun _ _ _ _ _ _ us hl => match us, hl with | [_], _ => rfl
  have bU := FU.binds (ps := ["_law_line"]) fun _ _ _ _ _ _ us hl => match us, hl with | [_], _ => rfl
  have bL := FL.binds (ps := ["_law_line"]) fun _ _ _ _ _ _ us hl => match us, hl with | [_], _ => rfl
  have bB := FB.binds (ps := ["_law_pool_here", "_law_line"]) fun _ _ _ _ _ _ us hl => match us, hl with | [_, _], _ => rfl
  have gF := PySem.W.mg_of X G aF.1
  have gS := PySem.W.mg_of X G aS.1
  have gW := PySem.W.mg_of X G aW.1
  have gR := PySem.W.mg_of X G aR.1
  have gK := PySem.W.mg_of X G aK.1
  have gO := PySem.W.mg_of X G aO.1
  have gD := PySem.W.mg_of X G aD.1
  have gX := PySem.W.mg_of X G aX.1
  have gN := PySem.W.mg_of X G aN.1
  have gU := PySem.W.mg_of X G aU.1
  have gL := PySem.W.mg_of X G aL.1
  have gB := PySem.W.mg_of X G aB.1
  have n0 := PySem.W.mg_none_of X G z0
  have n1 := PySem.W.mg_none_of X G z1
  have n2 := PySem.W.mg_none_of X G z2
  have n3 := PySem.W.mg_none_of X G z3
  have n4 := PySem.W.mg_none_of X G z4
  have n5 := PySem.W.mg_none_of X G z5
  have n6 := PySem.W.mg_none_of X G z6
  have n7 := PySem.W.mg_none_of X G z7
  have n8 := PySem.W.mg_none_of X G z8
  have n9 := PySem.W.mg_none_of X G z9
  have n10 := PySem.W.mg_none_of X G z10
  have n11 := PySem.W.mg_none_of X G z11
  have gM := PySem.W.mg_of X G aM
  obtain ⟨_, od, an, sl, oc, kV, dc, pm, cd, ct, l, c, k⟩ := aZ
  obtain ⟨u0, v0, w0, i0⟩ := qC
  have kS : KBinds K dS ["run"] ["run"] (fun us ws => us ++ ws) (fun vs zs => vs ++ zs) := named1 FS fun _ _ _ _ _ _ _ _ s v e => by subst e; exact ⟨.of_eq rfl, .of_eq rfl⟩
  have kR : KBinds K dR ["text"] ["text"] (fun us ws => us ++ ws) (fun vs zs => vs ++ zs) := named1 FR fun _ _ _ _ _ _ _ _ s v e => by subst e; exact ⟨.of_eq rfl, .of_eq rfl⟩
  refine ⟨_, "law", "law", defArgs sLaw, defBody sLaw, defScope sLaw, .none, kV, dc, pm, cd, ct, oc, an, od, sl, nLaw, rfl, l, c, scLaw, fun s v => .of_eq rfl, fun base _ _ s H a ns hw hr => ?_⟩
  obtain ⟨e0⟩ := mkNo (P := P) (w := w) (base := base) X G z11 u0 v0 i0
  have c0 : e0.C = C := Value.ref.inj (Option.some.inj (e0.g.symm.trans (PySem.W.mg_of X G u0)))
  have ex : PySem.W.exmOne K (.ref e0.C) (.ref e0.C) = some true := by rw [c0]; exact xm
  have F1 : Def P w K mg base CX0 1 "is_figures" ["word"] spFig := ⟨fF, dF, ok_fig (k := 0) FF n0 gM, gF, FF.kp, bF⟩
  have W2 : Def P w K mg base CX0 2 "is_turn_row" ["words"] (spTurn K) := ⟨fW, dW, ok_turn (k := 0) FW F1 n0 n8, gW, FW.kp, bW⟩
  have K1 : Def P w K mg base CX0 1 "_law_take" ["_law_pool_here", "_law_many"] spTake := ⟨fK, dK, ok_take (k := 0) FK, gK, FK.kp, bK⟩
  have N1 : Def P w K mg base CX0 1 "_law_is_number" ["_law_word"] spNum := ⟨fN, dN, ok_num (k := 0) FN n0, gN, FN.kp, bN⟩
  have okR : FnOk P w K mg base (L2.CX P w) 3 fR dR ["text"] (spRead K e0.C) := ok_read FR e0 W2 n5 n7 n9 n6
  have R3 : Def P w K mg base (L2.CX P w) 3 "read_run" ["text"] (spRead K e0.C) := ⟨fR, dR, okR, gR, FR.kp, bR⟩
  obtain ⟨t, h1, h2⟩ := law_body (P := P) (w := w) (K := K) (mg := mg) (base := base)
    { C := e0.C, dO := ⟨fO, dO, ok_pool (k := 0) FO n0 n10 n6, gO, FO.kp, bO⟩, dD := ⟨fD, dD, ok_drawn FD K1 n3, gD, FD.kp, bD⟩, dT := ⟨fX, dX, ok_text (k := 0) FX n7 n6, gX, FX.kp, bX⟩, dS := ⟨fS, dS, ok_shown (k := 0) FS n7, gS, FS.kp, bS⟩,
      dR := ⟨fR, dR, okR, gR, FR.kp, bR⟩, dB := ⟨fB, dB, ok_bent FB K1 n0, gB, FB.kp, bB⟩, dL := ⟨fL, dL, ok_told FL e0 R3 ex, gL, FL.kp, bL⟩, dU := ⟨fU, dU, ok_due FU N1 n5 n7 n9 n6 n0, gU, FU.kp, bU⟩, kS := kS, kR := kR,
      mlen := n0, mmax := n1, mmin := n2, mran := n3, mrep := n4 } hw.1 hw.2 hr
  exact ⟨t, h1.nox, h2⟩
end K50

set_option maxHeartbeats 0
open PySem PySem.W PyProof.Rows
open_top head50 for PySem.Challenge.rw_fewturnsover_k50_runs_written

open PySem PySem.W PyProof.Rows
set_option maxHeartbeats 0 in
theorem PySem.Challenge.cw_fewturnsover_k50_runs_written_holds : PySem.Challenge.rw_fewturnsover_k50_runs_written.Holds := by
  exact head50 (by
  k_fill
  refine G2.walk_G (l := PySem.Challenge.rw_fewturnsover_k50_runs_written) (n := 63) (k := 4) (x := "_law_script") (fun K H a ns => L2.SqL K H a (ns.map L2.V.int) ∧ ns.length ≤ 63) rfl (by decide) rfl ⟨rfl, by decide, by decide⟩ (fun w h Y => PySem.W.kIn_of Y) ?F (fun _ _ _ _ hl _ hS => ⟨hS, hl⟩)
  case F =>
    intro w mg fa h KX G hmg
    refine' K50.all_mk KX G hmg (EE.cat_mk ?ca ?ci ?cl ?cc ?cm ?cn ?co ?cp ?cs ?cq) ?xm ?aM (EE.at_mk ?a0 ?b0 ?c0 ?d0) (EE.at_mk ?a1 ?b1 ?c1 ?d1) (EE.at_mk ?a2 ?b2 ?c2 ?d2) (EE.at_mk ?a3 ?b3 ?c3 ?d3) (EE.at_mk ?a4 ?b4 ?c4 ?d4) (EE.at_mk ?a5 ?b5 ?c5 ?d5) (EE.at_mk ?a6 ?b6 ?c6 ?d6) (EE.at_mk ?a7 ?b7 ?c7 ?d7) (EE.at_mk ?a8 ?b8 ?c8 ?d8) (EE.at_mk ?a9 ?b9 ?c9 ?d9) (EE.at_mk ?a10 ?b10 ?c10 ?d10) (EE.at_mk ?a11 ?b11 ?c11 ?d11) (EE.at_mk ?a12 ?b12 ?c12 ?d12) ?z0 ?z1 ?z2 ?z3 ?z4 ?z5 ?z6 ?z7 ?z8 ?z9 ?z10 ?z11
    (case ca => k_is)
    (case ci => k_is)
    (case cl => k_is)
    (case cc => k_is)
    (case cm => k_is)
    (case cn => k_is)
    (case co => rfl)
    (case cp => first | rfl | decide +kernel)
    (case cs => decide +kernel)
    (case cq => kernel_rfl)
    (case xm => first | kernel_rfl | k_is)
    (case aM => k_is)
    (case a0 => k_is); (case b0 => k_is); (case c0 => k_is); (case d0 => k_is)
    (case a1 => k_is); (case b1 => k_is); (case c1 => k_is); (case d1 => k_is)
    (case a2 => k_is); (case b2 => k_is); (case c2 => k_is); (case d2 => k_is)
    (case a3 => k_is); (case b3 => k_is); (case c3 => k_is); (case d3 => k_is)
    (case a4 => k_is); (case b4 => k_is); (case c4 => k_is); (case d4 => k_is)
    (case a5 => k_is); (case b5 => k_is); (case c5 => k_is); (case d5 => k_is)
    (case a6 => k_is); (case b6 => k_is); (case c6 => k_is); (case d6 => k_is)
    (case a7 => k_is); (case b7 => k_is); (case c7 => k_is); (case d7 => k_is)
    (case a8 => k_is); (case b8 => k_is); (case c8 => k_is); (case d8 => k_is)
    (case a9 => k_is); (case b9 => k_is); (case c9 => k_is); (case d9 => k_is)
    (case a10 => k_is); (case b10 => k_is); (case c10 => k_is); (case d10 => k_is)
    (case a11 => k_is); (case b11 => k_is); (case c11 => k_is); (case d11 => k_is)
    (case a12 => k_is); (case b12 => k_is); (case c12 => k_is); (case d12 => k_is)
    (case z0 => k_is); (case z1 => k_is); (case z2 => k_is); (case z3 => k_is); (case z4 => k_is); (case z5 => k_is); (case z6 => k_is); (case z7 => k_is); (case z8 => k_is); (case z9 => k_is); (case z10 => k_is); (case z11 => k_is))
