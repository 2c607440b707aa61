import PyProof.Rows.All
import Wide.All
import OpenK.AllK
import Wide.FinOn
import HandS.ForMost
import HandS.Wide
import HandS.Walk
import HandS.Star
import HandS.Flow
import HandS.ExcInit
import HandS.ExcValue
import HandS.Lambda
import HandS.TupSets
import HandS.SetTxt0
import HandS.Set
import HandS.Strs
import PyProof.Rows.SortShellAny
import KE.GoesEnum
import HandS.Iter
import HandS.IsInst
import HandS.Codes
import HandS.RaiseMore
import HandS.TupLe
import HandS.Deep
import HandS.TupAny
import HandS.Style
import HandS.Exc
import HandS.ExcOwn
import HandS.ExcField
import HandS.ExcIs
import HandS.CallSlots
import HandS.WordsExc
import KE.KExcIs
import PyProof.P3In
import HandS.OwnEq
import HandS.Text
import HandS.ClsMeth
import HandS.TryOnly
import KE.KUnpackStar
import HandS.SetBool
import HandS.WideBits
import KE.SortData
import KE.DataCmp
import HandS.Defaults
import HandS.MakeKw
import HandS.MakeKwOnly
import PyProof.ReprRoads
import HandS.Ends
import HandS.SetKeys
import HandS.DictComp
import KE.DataMinKey
import HandS.SortKw
import HandS.SortInts
import KE.DataMinMax
import PyProof.Rows.RowBridgeK
import PyProof.Rows.StrMul
import KE.KxIndex
import HandS.Zip
import KE.KDictPairs
import HandS.Sort
import HandS.More
import KE.KDictList
import HandS.Conv
import KE.KDictKeyed
import PyProof.FactsAll.set_1
import PyProof.FactsAll.set_2
import PyProof.FactsAll.subtypes_5
import HandS.TupLen
import HandS.StrMore
import HandS.ExcCtx
import HandS.HotCalls
import HandS.SuiteRaise
import HandS.RaiseFrom
import HandS.ExcInitHot
import PyProof.ReprDict
import HandS.ReplaceDef
import HandS.EndTab
import KE.OsArith
import KE.BitLaws
import PySem.Challenge.RW_leavelots_k39_trees
set_option Elab.async false
set_option linter.all false
set_option maxRecDepth 100000
set_option maxHeartbeats 4000000
/-! L3: data without a heap over the hand layer. A value of the program stands for a datum D; a def's body is read over data alone. -/
namespace G
open PySem L2
inductive D where
  | non | bl (b : Bool) | int (i : Int) | str (s : Str)
  | lst (xs : List D) | tup (xs : List D) | obj (c : Nat) (ds : List D) | scr (ns : List Int) | exc (a dd : Addr) (f : Str) (x : D) | dic (ks : List Key) (ds : List D) | tupF (xs : List D) | ref (a : Addr) | tupT (xs : List D) | dicF (ks : List Key) (ds : List D) | dicT (ks : List (List Key)) (ds : List D) | err (c : Nat) (x : D) | er0 (c : Nat) | fn (k : Nat) (ds : List D)
structure Cl where
  C : Addr
  fs : List Str
/-- a lambda of the text: its qualified name, its parameters, body, scope, their names, the names that it captures -/
structure FnS where
  q : Str
  params : Arguments
  body : Expr
  scope : Scope
  ps : List Str
  cap : List Str
/-- just this object stands at a -/
def PinO (a : Addr) (o : Obj) : HO := .ext fun h => h.get? a = some o
def lamO (S : FnS) (cs : List Addr) (pm : Value) (c' : Addr) (ctv : Value) : Obj := PySem.W.kla_obj "<lambda>" S.q S.params S.body S.scope (S.cap.zip cs) pm c' ctv
structure Wd where
  K : PySem.W.Frag
  cl : Nat → Cl
  er : Nat → Addr × Str := fun _ => (0, "")
  fn : Nat → Option FnS := fun _ => none
def Ex (H H' : Hp) : Prop := ∀ a o, H a = some o → H' a = some o
theorem Ex.rfl' {H : Hp} : Ex H H := fun _ _ h => h
theorem Ex.tr {H H1 H2 : Hp} (a : Ex H H1) (b : Ex H1 H2) : Ex H H2 := fun x o h => b x o (a x o h)
theorem Ex.new {H : Hp} {p : Addr} {o : HO} (h : H p = none) : Ex H (upd H p o) := fun a u e => by
  rw [upd_ne (ne_of_none e h)]; exact e
theorem Ex.free {H H' : Hp} {p : Addr} (e : Ex H H') (h : H' p = none) : H p = none := by
  cases q : H p with
  | none => rfl
  | some o => rw [e p o q] at h; cases h
theorem Ex.both {M H : Hp} {p : Addr} {o : HO} (e : Ex M H) (h : H p = none) : Ex (upd M p o) (upd H p o) := fun a u q => by
  by_cases ha : a = p
  · subst ha; rw [upd_same] at q ⊢; exact q
  · rw [upd_ne ha] at q ⊢; exact e a u q
theorem rd_mono {M M' : Hp} (e : Ex M M') {a : Addr} {u : HO} (h : Rd M a u) : Rd M' a u := by
  rcases h with h | ⟨o, h⟩
  · exact .inl (e _ _ h)
  · exact .inr ⟨o, e _ _ h⟩
theorem sqT_mono {K : PySem.W.Frag} {M M' : Hp} (e : Ex M M') {a : Addr} {xs : List V} (h : SqT K M a xs) : SqT K M' a xs := h.imp (rd_mono e) id
theorem sqL_mono {K : PySem.W.Frag} {M M' : Hp} (e : Ex M M') {a : Addr} {xs : List V} (h : SqL K M a xs) : SqL K M' a xs := h.imp (rd_mono e) id
/-- the value v stands for the datum d by what M tells -/
inductive At (Z : Wd) (M : Hp) : V → D → Prop
  | non : At Z M .non .non
  | bl {b} : At Z M (.bl b) (.bl b)
  | int {i} : At Z M (.int i) (.int i)
  | str {s} : At Z M (.str s) (.str s)
  | lst {a vs ds} : M a = some (.lst vs) → vs.length = ds.length → (∀ (i : Nat) v d, vs[i]? = some v → ds[i]? = some d → At Z M v d) → At Z M (.ref a) (.lst ds)
  | tup {a vs ds} : SqT Z.K M a vs → vs.length = ds.length → (∀ (i : Nat) v d, vs[i]? = some v → ds[i]? = some d → At Z M v d) → At Z M (.ref a) (.tup ds)
  | obj {a dx c vs ds} : M a = some (.ins (Z.cl c).C dx ((Z.cl c).fs.zip vs)) → vs.length = (Z.cl c).fs.length → vs.length = ds.length → (∀ (i : Nat) v d, vs[i]? = some v → ds[i]? = some d → At Z M v d) → At Z M (.ref a) (.obj c ds)
  | scr {a ns} : SqL Z.K M a (ns.map V.int) → At Z M (.ref a) (.scr ns)
  | exc {a dd f v x} : M dd = some (.xd [(f, v)]) → At Z M v x → At Z M (.ref a) (.exc a dd f x)
  | dic {a kvs ks ds} : M a = some (.dK kvs) → kvs.map (·.1) = ks → (kvs.map (·.2)).length = ds.length → (∀ (i : Nat) v d, (kvs.map (·.2))[i]? = some v → ds[i]? = some d → At Z M v d) → At Z M (.ref a) (.dic ks ds)
  | tupF {a o vs ds} : M a = some (.frz o (.tup vs)) → o.cls = .type "tuple" → (o.dict = none ∧ o.slots = #[]) → vs.length = ds.length → (∀ (i : Nat) v d, vs[i]? = some v → ds[i]? = some d → At Z M v d) → At Z M (.ref a) (.tupF ds)
  | ref {a} : At Z M (.ref a) (.ref a)
  | err {a d c v x} : M a = some (exo a (Z.er c).1 (some d)) → M d = some (exd d [((Z.er c).2, v)]) → At Z M v x → At Z M (.ref a) (.err c x)
  | er0 {a c} : M a = some (ExO (.ref (Z.er c).1) a) → At Z M (.ref a) (.er0 c)
  | fn {f : Addr} {k : Nat} {S : FnS} {cs : List Addr} {c' : Addr} {pm ctv : Value} {vs : List V} {ds : List D} : Z.fn k = some S → M f = some (PinO f (lamO S cs pm c' ctv)) → M c' = some (LamX.CodeO c' S.q) → cs.length = S.cap.length ∧ cs.Nodup → cs.length = vs.length →
      (∀ (i : Nat) c v, cs[i]? = some c → vs[i]? = some v → ∃ o u, M c = some (PinO c o) ∧ o.data = .cell (some u) ∧ RelV v u) → vs.length = ds.length → (∀ (i : Nat) v d, vs[i]? = some v → ds[i]? = some d → At Z M v d) → At Z M (.ref f) (.fn k ds)
  | tupT {a vs ds} : M a = some (.tup vs) → vs.length = ds.length → (∀ (i : Nat) v d, vs[i]? = some v → ds[i]? = some d → At Z M v d) → At Z M (.ref a) (.tupT ds)
  | dicF {a o kvs ks ds} : M a = some (.frz o (.dK kvs)) → kvs.map (·.1) = ks → (kvs.map (·.2)).length = ds.length → (∀ (i : Nat) v d, (kvs.map (·.2))[i]? = some v → ds[i]? = some d → At Z M v d) → At Z M (.ref a) (.dicF ks ds)
  | dicT {a o kvs ks ds} : M a = some (.frz o (.dT kvs)) → kvs.map (·.1) = ks → (kvs.map (·.2)).length = ds.length → (∀ (i : Nat) v d, (kvs.map (·.2))[i]? = some v → ds[i]? = some d → At Z M v d) → At Z M (.ref a) (.dicT ks ds)
section
variable {Z : Wd} {M M' H H' : Hp}
theorem At.mono {v : V} {d : D} (e : Ex M M') (h : At Z M v d) : At Z M' v d := by
  induction h with
  | non => exact .non
  | bl => exact .bl
  | int => exact .int
  | str => exact .str
  | lst h l _ ih => exact .lst (e _ _ h) l ih
  | tup h l _ ih => exact .tup (sqT_mono e h) l ih
  | obj h l l2 _ ih => exact .obj (e _ _ h) l l2 ih
  | scr h => exact .scr (sqL_mono e h)
  | exc h _ ih => exact .exc (e _ _ h) ih
  | err h1 h2 _ ih => exact .err (e _ _ h1) (e _ _ h2) ih
  | er0 h => exact .er0 (e _ _ h)
  | fn h1 h2 h3 h4 h5 h6 l _ ih => exact .fn h1 (e _ _ h2) (e _ _ h3) h4 h5 (fun i c v a b => let ⟨o, u, q1, q2, q3⟩ := h6 i c v a b; ⟨o, u, e _ _ q1, q2, q3⟩) l ih
  | dic h k l _ ih => exact .dic (e _ _ h) k l ih
  | tupF h c k l _ ih => exact .tupF (e _ _ h) c k l ih
  | ref => exact .ref
  | tupT h l _ ih => exact .tupT (e _ _ h) l ih
  | dicF h k l _ ih => exact .dicF (e _ _ h) k l ih
  | dicT h k l _ ih => exact .dicT (e _ _ h) k l ih
structure AtL (Z : Wd) (M : Hp) (vs : List V) (ds : List D) : Prop where
  len : vs.length = ds.length
  at' : ∀ (i : Nat) v d, vs[i]? = some v → ds[i]? = some d → At Z M v d
variable {vs ws : List V} {ds es : List D} {v : V} {d : D}
theorem AtL.mono (e : Ex M M') (h : AtL Z M vs ds) : AtL Z M' vs ds := ⟨h.len, fun i v d a b => (h.at' i v d a b).mono e⟩
theorem AtL.nil : AtL Z M [] [] := ⟨rfl, fun i v d a => by simp at a⟩
theorem AtL.cons (h : At Z M v d) (t : AtL Z M vs ds) : AtL Z M (v :: vs) (d :: ds) := ⟨by simp [t.len], fun i x y a b => by
  cases i with
  | zero => simp at a b; subst a; subst b; exact h
  | succ i => exact t.at' i x y (by simpa using a) (by simpa using b)⟩
theorem AtL.one (h : At Z M v d) : AtL Z M [v] [d] := .cons h .nil
theorem AtL.inv (h : AtL Z M vs (d :: ds)) : ∃ v ws, vs = v :: ws ∧ At Z M v d ∧ AtL Z M ws ds := by
  cases vs with
  | nil => have := h.len; simp at this
  | cons v ws => exact ⟨v, ws, rfl, h.at' 0 v d rfl rfl, ⟨by simpa using h.len, fun i x y a b => h.at' (i + 1) x y (by simpa using a) (by simpa using b)⟩⟩
theorem AtL.inv0 (h : AtL Z M vs []) : vs = [] := by
  have := h.len; simpa using this
theorem AtL.app (h : AtL Z M vs ds) (t : AtL Z M ws es) : AtL Z M (vs ++ ws) (ds ++ es) := ⟨by simp [h.len, t.len], fun i x y a b => by
  by_cases hi : i < vs.length
  · rw [List.getElem?_append_left hi] at a
    rw [List.getElem?_append_left (h.len ▸ hi)] at b
    exact h.at' i x y a b
  · rw [List.getElem?_append_right (by omega)] at a
    rw [List.getElem?_append_right (by have := h.len; omega)] at b
    exact t.at' (i - vs.length) x y a (by rw [h.len]; exact b)⟩
theorem AtL.take (n : Nat) (h : AtL Z M vs ds) : AtL Z M (vs.take n) (ds.take n) := ⟨by simp [h.len], fun i x y a b => by
  rw [List.getElem?_take] at a b
  split at a
  · rename_i hi; rw [if_pos hi] at b; exact h.at' i x y a b
  · cases a⟩
theorem AtL.drop (n : Nat) (h : AtL Z M vs ds) : AtL Z M (vs.drop n) (ds.drop n) := ⟨by simp [h.len], fun i x y a b => by
  rw [List.getElem?_drop] at a b
  exact h.at' (n + i) x y a b⟩
theorem AtL.set (i : Nat) (h : AtL Z M vs ds) (k : At Z M v d) : AtL Z M (vs.set i v) (ds.set i d) := ⟨by simp [h.len], fun j x y a b => by
  rw [List.getElem?_set] at a b
  split at a
  · rename_i e
    rw [if_pos e] at b
    split at a
    · rename_i q; rw [if_pos (h.len ▸ q)] at b; cases a; cases b; exact k
    · cases a
  · rename_i e; rw [if_neg e] at b; exact h.at' j x y a b⟩
theorem AtL.erase (n : Nat) (h : AtL Z M vs ds) : AtL Z M (vs.eraseIdx n) (ds.eraseIdx n) := ⟨by
    rw [List.length_eraseIdx, List.length_eraseIdx, h.len], fun i x y a b => by
  rw [List.getElem?_eraseIdx] at a b
  split at a
  · rename_i q; rw [if_pos q] at b; exact h.at' i x y a b
  · rename_i q; rw [if_neg q] at b; exact h.at' (i + 1) x y a b⟩
theorem AtL.get {i : Nat} (h : AtL Z M vs ds) (e : ds[i]? = some d) : ∃ v, vs[i]? = some v ∧ At Z M v d := by
  have hi : i < ds.length := (List.getElem?_eq_some_iff.mp e).1
  exact ⟨vs[i]'(h.len ▸ hi), by simp [h.len ▸ hi], h.at' i _ d (by simp [h.len ▸ hi]) e⟩
theorem AtL.getV {i : Nat} (h : AtL Z M vs ds) (e : vs[i]? = some v) : ∃ d, ds[i]? = some d ∧ At Z M v d := by
  have hi : i < vs.length := (List.getElem?_eq_some_iff.mp e).1
  exact ⟨ds[i]'(h.len ▸ hi), by simp [h.len ▸ hi], h.at' i v _ e (by simp [h.len ▸ hi])⟩
theorem AtL.dropLast (h : AtL Z M vs ds) : AtL Z M vs.dropLast ds.dropLast := by
  rw [List.dropLast_eq_take, List.dropLast_eq_take, h.len]; exact h.take _
theorem AtL.ints : ∀ {vs : List V} {ns : List Int}, AtL Z M vs (ns.map D.int) → vs = ns.map V.int
  | vs, [], h => h.inv0
  | vs, n :: ns, h => by
    obtain ⟨v, ws, rfl, a, t⟩ := h.inv
    cases a
    rw [AtL.ints t]; rfl
theorem AtL.strs : ∀ {vs : List V} {ns : List Str}, AtL Z M vs (ns.map D.str) → vs = ns.map V.str
  | vs, [], h => h.inv0
  | vs, n :: ns, h => by
    obtain ⟨v, ws, rfl, a, t⟩ := h.inv
    cases a
    rw [AtL.strs t]; rfl
theorem AtL.bools : ∀ {vs : List V} {ns : List Bool}, AtL Z M vs (ns.map D.bl) → vs = ns.map V.bl
  | vs, [], h => h.inv0
  | vs, n :: ns, h => by
    obtain ⟨v, ws, rfl, a, t⟩ := h.inv
    cases a
    rw [AtL.bools t]; rfl
theorem AtL.ofInts : ∀ (ns : List Int), AtL Z M (ns.map V.int) (ns.map D.int)
  | [] => .nil
  | n :: ns => .cons .int (AtL.ofInts ns)
theorem AtL.ofStrs : ∀ (ns : List Str), AtL Z M (ns.map V.str) (ns.map D.str)
  | [] => .nil
  | n :: ns => .cons .str (AtL.ofStrs ns)
end
/-! ### objects that one def alone holds -/
inductive OD where
  | lst (xs : List D) | dic (kvs : List (Key × D)) | ins (c : Nat) (fs : List (Str × D)) | dT (kvs : List (List Key × D))
def ODAt (Z : Wd) (M : Hp) : HO → OD → Prop
  | .lst vs, .lst xs => AtL Z M vs xs
  | .dK kvs, .dic ds => kvs.map (·.1) = ds.map (·.1) ∧ AtL Z M (kvs.map (·.2)) (ds.map (·.2))
  | .dT kvs, .dT ds => kvs.map (·.1) = ds.map (·.1) ∧ AtL Z M (kvs.map (·.2)) (ds.map (·.2))
  | .ins C _ fs, .ins c gs => C = (Z.cl c).C ∧ fs.map (·.1) = gs.map (·.1) ∧ AtL Z M (fs.map (·.2)) (gs.map (·.2))
  | _, _ => False
inductive S where
  | no | d (x : D) | own (y : OD) | deal (q : Addr) (cs : List Int) (n : Int)
section
variable {Z : Wd} {M M' H H' : Hp}
theorem ODAt.mono (e : Ex M M') {ho : HO} {y : OD} (h : ODAt Z M ho y) : ODAt Z M' ho y := by
  cases ho with
  | lst vs => cases y with
    | lst xs => exact AtL.mono e h
    | dic _ => exact h
    | ins _ _ => exact h
    | dT _ => exact h
  | dK vs => cases y with
    | dic xs => exact ⟨h.1, h.2.mono e⟩
    | lst _ => exact h
    | ins _ _ => exact h
    | dT _ => exact h
  | dT vs => cases y with
    | dT xs => exact ⟨h.1, h.2.mono e⟩
    | lst _ => exact h
    | ins _ _ => exact h
    | dic _ => exact h
  | ins C dx fs => cases y with
    | ins c gs => exact ⟨h.1, h.2.1, h.2.2.mono e⟩
    | lst _ => exact h
    | dic _ => exact h
    | dT _ => exact h
  | _ => exact False.elim h
theorem ODAt.lstI {ho : HO} {xs : List D} (h : ODAt Z M ho (.lst xs)) : ∃ vs, ho = .lst vs ∧ AtL Z M vs xs := by
  cases ho with
  | lst vs => exact ⟨vs, rfl, h⟩
  | _ => exact False.elim h
theorem ODAt.dicI {ho : HO} {ds : List (Key × D)} (h : ODAt Z M ho (.dic ds)) : ∃ kvs, ho = .dK kvs ∧ kvs.map (·.1) = ds.map (·.1) ∧ AtL Z M (kvs.map (·.2)) (ds.map (·.2)) := by
  cases ho with
  | dK vs => exact ⟨vs, rfl, h⟩
  | _ => exact False.elim h
theorem ODAt.dTI {ho : HO} {ds : List (List Key × D)} (h : ODAt Z M ho (.dT ds)) : ∃ kvs, ho = .dT kvs ∧ kvs.map (·.1) = ds.map (·.1) ∧ AtL Z M (kvs.map (·.2)) (ds.map (·.2)) := by
  cases ho with
  | dT vs => exact ⟨vs, rfl, h⟩
  | _ => exact False.elim h
theorem ODAt.insI {ho : HO} {c : Nat} {gs : List (Str × D)} (h : ODAt Z M ho (.ins c gs)) : ∃ dx fs, ho = .ins (Z.cl c).C dx fs ∧ fs.map (·.1) = gs.map (·.1) ∧ AtL Z M (fs.map (·.2)) (gs.map (·.2)) := by
  cases ho with
  | ins C dx fs => obtain ⟨rfl, a, b⟩ := h; exact ⟨dx, fs, rfl, a, b⟩
  | _ => exact False.elim h
def SlotOk (Z : Wd) (M H : Hp) : Option V → S → Prop
  | _, .no => True
  | o, .d x => ∃ v, o = some v ∧ At Z M v x
  | o, .own y => ∃ p ho, o = some (.ref p) ∧ H p = some ho ∧ ODAt Z M ho y ∧ M p = none
  | o, .deal q cs n => ∃ p, o = some (.ref p) ∧ H p = some (.lst [.ref q, .int n]) ∧ H q = some (.lst (cs.map V.int)) ∧ M p = none ∧ M q = none ∧ p ≠ q
/-- what a slot with the address p holds alone -/
def Hol (p : Addr) : S → Addr → Prop
  | .own _, a => a = p
  | .deal q _ _, a => a = p ∨ a = q
  | _, _ => False
def Own (σ : St) (δ : List S) (i : Nat) (a : Addr) : Prop := ∃ p s, σ[i]? = some (some (.ref p)) ∧ δ[i]? = some s ∧ Hol p s a
theorem Own.mk {σ : St} {δ : List S} {i : Nat} {p : Addr} {y : OD} (h : σ[i]? = some (some (.ref p))) (k : δ[i]? = some (.own y)) : Own σ δ i p := ⟨p, _, h, k, rfl⟩
theorem Own.inv {σ : St} {δ : List S} {i : Nat} {p : Addr} {y : OD} (h : Own σ δ i p) (k : δ[i]? = some (.own y)) : σ[i]? = some (some (.ref p)) := by
  obtain ⟨q, s, a, b, c⟩ := h
  rw [k] at b; cases b; cases c; exact a
theorem Own.not {σ : St} {δ : List S} {i : Nat} {p : Addr} {s : S} (k : δ[i]? = some s) (n : ∀ p a, ¬ Hol p s a) : ¬ Own σ δ i p := fun ⟨q, s', _, b, c⟩ => by
  rw [k] at b; cases b; exact n _ _ c
theorem Own.same {σ σ' : St} {δ δ' : List S} {i : Nat} {p : Addr} (h : Own σ δ i p) (e : σ'[i]? = σ[i]?) (f : δ'[i]? = δ[i]?) : Own σ' δ' i p := by
  obtain ⟨q, s, a, b, c⟩ := h
  exact ⟨q, s, e.trans a, f.trans b, c⟩
theorem hol_no (p a : Addr) : ¬ Hol p .no a := id
theorem hol_d (x : D) (p a : Addr) : ¬ Hol p (.d x) a := id
/-- no tuple: it may change -/
def NT (o : HO) : Prop := ∀ vs, o ≠ .tup vs
theorem NT.own {Z : Wd} {M : Hp} {ho : HO} {y : OD} (h : ODAt Z M ho y) : NT ho := fun vs e => by subst e; cases y <;> exact h.elim
/-- the heap at a def's entry, and what of it never changes -/
structure Bas where
  h : Hp
  m : Hp
/-- the state: B the heap at the def's entry, W what it has borrowed (slot, address), M what will never change, H the heap, σ the slots' values, δ their data -/
structure I3 (Z : Wd) (B : Bas) (W : List (Nat × Addr)) (M H : Hp) (σ : St) (δ : List S) : Prop where
  ex : Ex M H
  mg : ∀ a o, B.h a = some o → B.m a = none → NT o → M a = none
  keep : ∀ a o, B.h a = some o → (∀ i, (i, a) ∉ W) → H a = some o
  len : σ.length = δ.length
  sl : ∀ (i : Nat) s, δ[i]? = some s → ∃ o, σ[i]? = some o ∧ SlotOk Z M H o s
  bor : ∀ i p, (i, p) ∈ W → Own σ δ i p
  own : ∀ i p, Own σ δ i p → (i, p) ∈ W ∨ B.h p = none
  dis : ∀ i j p, Own σ δ i p → Own σ δ j p → i = j
variable {B : Bas} {W : List (Nat × Addr)} {σ : St} {δ : List S}
theorem I3.ownAt (I : I3 Z B W M H σ δ) {i : Nat} {p : Addr} (h : Own σ δ i p) : ∃ ho, H p = some ho ∧ M p = none := by
  obtain ⟨p0, s, h1, h2, h3⟩ := h
  obtain ⟨o, e, k⟩ := I.sl i _ h2
  rw [h1] at e; cases e
  cases s with
  | no => exact h3.elim
  | d x => exact h3.elim
  | own y =>
    obtain ⟨q, ho, e2, e3, e4, e5⟩ := k
    cases e2; cases h3
    exact ⟨ho, e3, e5⟩
  | deal q cs n =>
    obtain ⟨p1, e2, e3, e4, e5, e6, _⟩ := k
    cases e2
    rcases h3 with rfl | rfl
    · exact ⟨_, e3, e5⟩
    · exact ⟨_, e4, e6⟩
theorem I3.ownO (I : I3 Z B W M H σ δ) {i : Nat} {p : Addr} {y : OD} (h : Own σ δ i p) (k : δ[i]? = some (.own y)) : ∃ ho, H p = some ho ∧ ODAt Z M ho y ∧ M p = none := by
  obtain ⟨o, e, q, ho, rfl, e3, e4, e5⟩ := I.sl i _ k
  have h1 := h.inv k
  rw [e] at h1; cases h1
  exact ⟨ho, e3, e4, e5⟩
theorem plain_no {ds : List D} {n i : Nat} {s : S} (h : (ds.map S.d ++ List.replicate n S.no)[i]? = some s) : ∀ p a, ¬ Hol p s a := by
  have : s ∈ ds.map S.d ++ List.replicate n S.no := List.mem_of_getElem? h
  rcases List.mem_append.mp this with m | m
  · obtain ⟨d, _, rfl⟩ := List.mem_map.mp m; exact hol_d d
  · rw [(List.mem_replicate.mp m).2]; exact hol_no
theorem Own.plain {ds : List D} {n i : Nat} {p : Addr} : ¬ Own σ (ds.map S.d ++ List.replicate n S.no) i p := fun ⟨q, _, _, b, c⟩ => plain_no b q p c
theorem I3.fresh (I : I3 Z B W M H σ δ) {p : Addr} (h : H p = none) : B.h p = none := by
  cases q : B.h p with
  | none => rfl
  | some o =>
    by_cases hw : ∃ i, (i, p) ∈ W
    · obtain ⟨i, hi⟩ := hw
      obtain ⟨ho, e, _⟩ := I.ownAt (I.bor i p hi)
      rw [h] at e; cases e
    · have := I.keep p o q (fun i hi => hw ⟨i, hi⟩)
      rw [h] at this; cases this
theorem I3.ownNT (I : I3 Z B W M H σ δ) {i : Nat} {p : Addr} (h : Own σ δ i p) : ∃ ho, H p = some ho ∧ NT ho := by
  obtain ⟨p0, s, h1, h2, h3⟩ := h
  obtain ⟨o, e, k⟩ := I.sl i _ h2
  rw [h1] at e; cases e
  cases s with
  | no => exact h3.elim
  | d x => exact h3.elim
  | own y =>
    obtain ⟨q, ho, e2, e3, e4, e5⟩ := k
    cases e2; cases h3
    exact ⟨ho, e3, .own e4⟩
  | deal q cs n =>
    obtain ⟨p1, e2, e3, e4, e5, e6, _⟩ := k
    cases e2
    rcases h3 with rfl | rfl
    · exact ⟨_, e3, fun _ e => nomatch e⟩
    · exact ⟨_, e4, fun _ e => nomatch e⟩
theorem I3.nt (I : I3 Z B W M H σ δ) {a : Addr} {o u : HO} (e : B.h a = some o) (t : NT o) (q : H a = some u) : NT u := by
  by_cases hw : ∃ i, (i, a) ∈ W
  · obtain ⟨i, hi⟩ := hw
    obtain ⟨ho, e2, t2⟩ := I.ownNT (I.bor i a hi)
    rw [q] at e2; cases e2; exact t2
  · have := I.keep a o e fun i hi => hw ⟨i, hi⟩
    rw [q] at this; cases this; exact t
theorem SlotOk.mono {o : Option V} {s : S} (e : Ex M M') (hn : ∀ p, M p = none → M' p ≠ none → H p = none) (h : SlotOk Z M H o s) : SlotOk Z M' H o s := by
  cases s with
  | no => trivial
  | d x => obtain ⟨v, a, b⟩ := h; exact ⟨v, a, b.mono e⟩
  | own y =>
    obtain ⟨p, ho, a, b, c, d⟩ := h
    refine ⟨p, ho, a, b, c.mono e, ?_⟩
    cases q : M' p with
    | none => rfl
    | some u =>
      have := hn p d (by rw [q]; exact fun z => nomatch z)
      rw [b] at this; cases this
  | deal q cs n =>
    obtain ⟨p, a, b, c, d, f, g⟩ := h
    have no : ∀ {x : Addr} {u : HO}, H x = some u → M x = none → M' x = none := fun {x u} hx hm => by
      cases z : M' x with
      | none => rfl
      | some u =>
        have := hn x hm (by rw [z]; exact fun z => nomatch z)
        rw [hx] at this; cases this
    exact ⟨p, a, b, c, no b d, no c f, g⟩
/-- a new object that will never change -/
theorem I3.grow (I : I3 Z B W M H σ δ) {p : Addr} {o : HO} (h : H p = none) : I3 Z B W (upd M p o) (upd H p o) σ δ := by
  have hm : M p = none := I.ex.free h
  refine ⟨I.ex.both h, fun a u e n => ?_, fun a u e n => ?_, I.len, fun i s e => ?_, I.bor, I.own, I.dis⟩
  · rw [upd_ne (ne_of_none e (I.fresh h))]; exact I.mg a u e n
  · have := I.keep a u e n
    rw [upd_ne (ne_of_none this h)]; exact this
  · obtain ⟨v, e1, e2⟩ := I.sl i s e
    refine ⟨v, e1, ?_⟩
    cases s with
    | no => trivial
    | d x => obtain ⟨u, a, b⟩ := e2; exact ⟨u, a, b.mono (Ex.new hm)⟩
    | own y =>
      obtain ⟨q, ho, a, b, c, d⟩ := e2
      have hq : q ≠ p := ne_of_none b h
      exact ⟨q, ho, a, by rw [upd_ne hq]; exact b, c.mono (Ex.new hm), by rw [upd_ne hq]; exact d⟩
    | deal q cs n =>
      obtain ⟨r, a, b, c, d, f, g⟩ := e2
      have hr : r ≠ p := ne_of_none b h
      have hq : q ≠ p := ne_of_none c h
      exact ⟨r, a, by rw [upd_ne hr]; exact b, by rw [upd_ne hq]; exact c, by rw [upd_ne hr]; exact d, by rw [upd_ne hq]; exact f, g⟩
/-- another object, that nobody knows, comes or changes -/
theorem I3.other (I : I3 Z B W M H σ δ) {p : Addr} {o : HO} (hB : B.h p = none) (hm : M p = none) (ho : ∀ i, ¬ Own σ δ i p) : I3 Z B W M (upd H p o) σ δ := by
  refine ⟨fun a u e => ?_, I.mg, fun a u e n => ?_, I.len, fun i s e => ?_, I.bor, I.own, I.dis⟩
  · rw [upd_ne (ne_of_none e hm)]; exact I.ex a u e
  · rw [upd_ne (ne_of_none e hB)]; exact I.keep a u e n
  · obtain ⟨v, e1, e2⟩ := I.sl i s e
    refine ⟨v, e1, ?_⟩
    cases s with
    | no => trivial
    | d x => exact e2
    | own y =>
      obtain ⟨q, hq, a, b, c, d⟩ := e2
      subst a
      have hq' : q ≠ p := fun z => ho i (z ▸ Own.mk e1 e)
      exact ⟨q, hq, rfl, by rw [upd_ne hq']; exact b, c, d⟩
    | deal q cs n =>
      obtain ⟨r, a, b, c, d, f, g⟩ := e2
      subst a
      have hr : r ≠ p := fun z => ho i (z ▸ ⟨r, _, e1, e, .inl rfl⟩)
      have hq : q ≠ p := fun z => ho i (z ▸ ⟨r, _, e1, e, .inr rfl⟩)
      exact ⟨r, rfl, by rw [upd_ne hr]; exact b, by rw [upd_ne hq]; exact c, d, f, g⟩
theorem Own.setS {i j : Nat} {p : Addr} {s s' : S} (hi : δ[i]? = some s) (hs : ∀ p a, Hol p s a ↔ Hol p s' a) : Own σ (δ.set i s') j p ↔ Own σ δ j p := by
  have hl : i < δ.length := (List.getElem?_eq_some_iff.mp hi).1
  unfold Own
  by_cases e : i = j
  · subst e
    rw [List.getElem?_set_self hl, hi]
    constructor
    · rintro ⟨q, u, a, b, c⟩; cases b; exact ⟨q, _, a, rfl, (hs _ _).mpr c⟩
    · rintro ⟨q, u, a, b, c⟩; cases b; exact ⟨q, _, a, rfl, (hs _ _).mp c⟩
  · rw [List.getElem?_set_ne e]
/-- what slot i holds alone changes -/
theorem I3.writeS (I : I3 Z B W M H σ δ) {i : Nat} {o : Option V} {s s' : S} (h : σ[i]? = some o) (hi : δ[i]? = some s) (hs : ∀ p a, Hol p s a ↔ Hol p s' a) (hH : ∀ a, ¬ Own σ δ i a → H' a = H a) (hy : SlotOk Z M H' o s') : I3 Z B W M H' σ (δ.set i s') := by
  have hl : i < δ.length := (List.getElem?_eq_some_iff.mp hi).1
  refine ⟨fun a u e => ?_, I.mg, fun a u e n => ?_, by rw [List.length_set]; exact I.len, fun j t e => ?_, fun j q w => (Own.setS hi hs).mpr (I.bor j q w), fun j q o => I.own j q ((Own.setS hi hs).mp o), fun j k q a b => I.dis j k q ((Own.setS hi hs).mp a) ((Own.setS hi hs).mp b)⟩
  · rw [hH a fun o => by obtain ⟨_, _, q⟩ := I.ownAt o; rw [q] at e; cases e]; exact I.ex a u e
  · rw [hH a fun o => by
      rcases I.own i a o with q | q
      · exact n i q
      · rw [e] at q; cases q]
    exact I.keep a u e n
  · by_cases e1 : i = j
    · subst e1
      rw [List.getElem?_set_self hl] at e; cases e
      exact ⟨_, h, hy⟩
    · rw [List.getElem?_set_ne e1] at e
      obtain ⟨v, a, b⟩ := I.sl j t e
      refine ⟨v, a, ?_⟩
      cases t with
      | no => trivial
      | d x => exact b
      | own z =>
        obtain ⟨q, hq, c, d, f, g⟩ := b
        subst c
        exact ⟨q, hq, rfl, by rw [hH q fun o => e1 (I.dis i j q o (Own.mk a e))]; exact d, f, g⟩
      | deal q cs n =>
        obtain ⟨r, c, d, f, g, k, l⟩ := b
        subst c
        exact ⟨r, rfl, by rw [hH r fun o => e1 (I.dis i j r o ⟨r, _, a, e, .inl rfl⟩)]; exact d, by rw [hH q fun o => e1 (I.dis i j q o ⟨r, _, a, e, .inr rfl⟩)]; exact f, g, k, l⟩
theorem I3.write (I : I3 Z B W M H σ δ) {i : Nat} {p : Addr} {ho : HO} {y y' : OD} (h : σ[i]? = some (some (.ref p))) (hi : δ[i]? = some (.own y)) (hy : ODAt Z M ho y') : I3 Z B W M (upd H p ho) σ (δ.set i (.own y')) :=
  I.writeS h hi (fun _ _ => Iff.rfl) (fun a n => upd_ne fun z => n (z ▸ Own.mk h hi)) ⟨p, ho, rfl, upd_same, hy, by obtain ⟨_, _, m⟩ := I.ownAt (Own.mk h hi); exact m⟩
theorem Own.setN {i j : Nat} {p : Addr} {v : Option V} {s : S} (hs : ∀ p a, ¬ Hol p s a) (h : Own (σ.set i v) (δ.set i s) j p) : i ≠ j ∧ Own σ δ j p := by
  obtain ⟨q, u, a, b, c⟩ := h
  have e : i ≠ j := fun e => by
    subst e
    rw [List.getElem?_set] at b
    split at b
    · split at b
      · cases b; exact hs _ _ c
      · cases b
    · rename_i q; exact q rfl
  rw [List.getElem?_set_ne e] at a b
  exact ⟨e, q, u, a, b, c⟩
/-- slot i gets a datum, or is forgotten -/
theorem I3.put (I : I3 Z B W M H σ δ) {i : Nat} {o : Option V} {s : S} (hi : ∀ p, (i, p) ∉ W) (hs : ∀ p a, ¬ Hol p s a) (hv : SlotOk Z M H o s) : I3 Z B W M H (σ.set i o) (δ.set i s) := by
  refine ⟨I.ex, I.mg, I.keep, by rw [List.length_set, List.length_set]; exact I.len, fun j t e => ?_, fun j q w => ?_, fun j q o => I.own j q (Own.setN hs o).2, fun j k q a b => I.dis j k q (Own.setN hs a).2 (Own.setN hs b).2⟩
  · by_cases e1 : i = j
    · subst e1
      have hl : i < δ.length := by
        have := (List.getElem?_eq_some_iff.mp e).1; rwa [List.length_set] at this
      rw [List.getElem?_set_self hl] at e; cases e
      exact ⟨o, by rw [List.getElem?_set_self (by rw [I.len]; exact hl)], hv⟩
    · rw [List.getElem?_set_ne e1] at e ⊢
      exact I.sl j t e
  · have e1 : i ≠ j := fun e => hi q (e ▸ w)
    exact (I.bor j q w).same (List.getElem?_set_ne e1) (List.getElem?_set_ne e1)
/-- slot i gets an object that nobody else holds -/
theorem I3.putS (I : I3 Z B W M H σ δ) {i : Nat} {p : Addr} {s : S} (hi : ∀ p, (i, p) ∉ W) (hl : i < δ.length) (hv : SlotOk Z M H (some (.ref p)) s) (hB : ∀ a, Hol p s a → B.h a = none) (hn : ∀ a, Hol p s a → ∀ j, ¬ Own σ δ j a) :
    I3 Z B W M H (σ.set i (some (.ref p))) (δ.set i s) := by
  have own' : ∀ j q, Own (σ.set i (some (.ref p))) (δ.set i s) j q → (j = i ∧ Hol p s q) ∨ (i ≠ j ∧ Own σ δ j q) := fun j q h => by
    obtain ⟨r, u, a, b, c⟩ := h
    by_cases e : i = j
    · subst e
      rw [List.getElem?_set_self (by rw [I.len]; exact hl)] at a
      rw [List.getElem?_set_self hl] at b
      cases a; cases b; exact .inl ⟨rfl, c⟩
    · rw [List.getElem?_set_ne e] at a b
      exact .inr ⟨e, r, u, a, b, c⟩
  refine ⟨I.ex, I.mg, I.keep, by rw [List.length_set, List.length_set]; exact I.len, fun j t e => ?_, fun j q w => ?_, fun j q o => ?_, fun j k q a b => ?_⟩
  · by_cases e1 : i = j
    · subst e1
      rw [List.getElem?_set_self hl] at e; cases e
      exact ⟨_, by rw [List.getElem?_set_self (by rw [I.len]; exact hl)], hv⟩
    · rw [List.getElem?_set_ne e1] at e ⊢
      exact I.sl j t e
  · have e1 : i ≠ j := fun e => hi q (e ▸ w)
    exact (I.bor j q w).same (List.getElem?_set_ne e1) (List.getElem?_set_ne e1)
  · rcases own' j q o with ⟨rfl, h⟩ | ⟨_, o⟩
    · exact .inr (hB q h)
    · exact I.own j q o
  · rcases own' j q a with ⟨e1, e2⟩ | ⟨_, a1⟩
    · rcases own' k q b with ⟨e3, _⟩ | ⟨_, b1⟩
      · rw [e1, e3]
      · exact absurd b1 (hn q e2 k)
    · rcases own' k q b with ⟨e3, e4⟩ | ⟨_, b1⟩
      · exact absurd a1 (hn q e4 j)
      · exact I.dis j k q a1 b1
theorem I3.putO (I : I3 Z B W M H σ δ) {i : Nat} {p : Addr} {ho : HO} {y : OD} (hi : ∀ p, (i, p) ∉ W) (hl : i < δ.length) (hp : H p = some ho) (hy : ODAt Z M ho y) (hm : M p = none) (hB : B.h p = none) (hn : ∀ j, ¬ Own σ δ j p) :
    I3 Z B W M H (σ.set i (some (.ref p))) (δ.set i (.own y)) :=
  I.putS hi hl ⟨p, ho, rfl, hp, hy, hm⟩ (fun _ h => h ▸ hB) fun _ h => h ▸ hn
/-- what slot i holds alone is a datum from now on -/
theorem I3.freeze (I : I3 Z B W M H σ δ) {i : Nat} {xs : List D} (hi : ∀ p, (i, p) ∉ W) (h : δ[i]? = some (.own (.lst xs))) : ∃ M', Ex M M' ∧ I3 Z B W M' H σ (δ.set i (.d (.lst xs))) := by
  obtain ⟨o, e1, p, ho, rfl, e3, e4, e5⟩ := I.sl i _ h
  obtain ⟨vs, rfl, a⟩ := e4.lstI
  have hO : Own σ δ i p := Own.mk e1 h
  have hl : i < δ.length := (List.getElem?_eq_some_iff.mp h).1
  have ex : Ex M (upd M p (.lst vs)) := Ex.new e5
  have es : σ.set i (some (.ref p)) = σ := by
    apply List.ext_getElem?
    intro j
    by_cases e : i = j
    · subst e; rw [List.getElem?_set_self (by rw [I.len]; exact hl), e1]
    · rw [List.getElem?_set_ne e]
  have bad : ∀ j q, Own σ (δ.set i (.d (.lst xs))) j q → i ≠ j ∧ Own σ δ j q := fun j q o => by
    rw [← es] at o
    exact Own.setN (hol_d _) o
  refine ⟨_, ex, fun b u q => ?_, fun a u e n => ?_, I.keep, by rw [List.length_set]; exact I.len, fun j t e => ?_, fun j q w => ?_, fun j q o => I.own j q (bad j q o).2, fun j k q a b => I.dis j k q (bad j q a).2 (bad k q b).2⟩
  · by_cases z : b = p
    · subst z; rw [upd_same] at q; cases q; exact e3
    · rw [upd_ne z] at q; exact I.ex b u q
  · rcases I.own i p hO with z | z
    · exact absurd z (hi p)
    · rw [upd_ne (ne_of_none e z)]; exact I.mg a u e n
  · by_cases e' : i = j
    · subst e'
      rw [List.getElem?_set_self hl] at e; cases e
      exact ⟨_, e1, _, rfl, .lst upd_same a.len (a.mono ex).at'⟩
    · rw [List.getElem?_set_ne e'] at e
      obtain ⟨v, c, d⟩ := I.sl j t e
      refine ⟨v, c, ?_⟩
      cases t with
      | no => trivial
      | d x => obtain ⟨u, f, g⟩ := d; exact ⟨u, f, g.mono ex⟩
      | own z =>
        obtain ⟨q, hq, f, g, k, l⟩ := d
        subst f
        have hq' : q ≠ p := fun zz => e' (I.dis i j p hO (zz ▸ Own.mk c e))
        exact ⟨q, hq, rfl, g, k.mono ex, by rw [upd_ne hq']; exact l⟩
      | deal q cs n =>
        obtain ⟨r, f, g, k, l, m, o⟩ := d
        subst f
        have hr : r ≠ p := fun zz => e' (I.dis i j p hO (zz ▸ ⟨r, _, c, e, .inl rfl⟩))
        have hq : q ≠ p := fun zz => e' (I.dis i j p hO (zz ▸ ⟨r, _, c, e, .inr rfl⟩))
        exact ⟨r, rfl, g, k, by rw [upd_ne hr]; exact l, by rw [upd_ne hq]; exact m, o⟩
  · have e' : i ≠ j := fun e => hi q (e ▸ w)
    exact (I.bor j q w).same rfl (List.getElem?_set_ne e')
/-- all that the slots hold alone -/
def holds : Option V → S → List Addr
  | some (.ref p), .own _ => [p]
  | some (.ref p), .deal q _ _ => [p, q]
  | _, _ => []
theorem mem_holds {o : Option V} {s : S} {a : Addr} : a ∈ holds o s ↔ ∃ p, o = some (.ref p) ∧ Hol p s a := by
  cases o with
  | none => simp [holds]
  | some v =>
    cases v with
    | ref p => cases s <;> simp [holds, Hol]
    | _ => simp [holds]
def owns : Nat → St → List S → List (Nat × Addr)
  | i, o :: σ, s :: δ => (holds o s).map (fun a => (i, a)) ++ owns (i + 1) σ δ
  | _, _, _ => []
theorem owns_of : ∀ (σ : St) (δ : List S) (n i : Nat) (p : Addr), (i, p) ∈ owns n σ δ ↔ ∃ j, i = n + j ∧ Own σ δ j p
  | [], δ, n, i, p => by
    constructor
    · intro h; cases δ <;> simp [owns] at h
    · rintro ⟨j, _, q, s, h, _⟩; simp at h
  | o :: σ, [], n, i, p => by
    constructor
    · intro h; simp [owns] at h
    · rintro ⟨j, _, q, s, _, h, _⟩; simp at h
  | o :: σ, s :: δ, n, i, p => by
    have ih := owns_of σ δ (n + 1) i p
    have tail : (∃ j, i = n + 1 + j ∧ Own σ δ j p) ↔ ∃ j, i = n + (j + 1) ∧ Own (o :: σ) (s :: δ) (j + 1) p := by
      constructor
      · rintro ⟨j, e, h⟩; exact ⟨j, by omega, by unfold Own at h ⊢; simpa using h⟩
      · rintro ⟨j, e, h⟩; exact ⟨j, by omega, by unfold Own at h ⊢; simpa using h⟩
    have zero : Own (o :: σ) (s :: δ) 0 p ↔ p ∈ holds o s := by
      rw [mem_holds]
      unfold Own
      constructor
      · rintro ⟨q, u, a, b, c⟩; simp at a b; subst b; exact ⟨q, a, c⟩
      · rintro ⟨q, a, c⟩; exact ⟨q, s, by simp [a], by simp, c⟩
    rw [show owns n (o :: σ) (s :: δ) = (holds o s).map (fun a => (n, a)) ++ owns (n + 1) σ δ from rfl, List.mem_append, ih, tail, List.mem_map]
    constructor
    · rintro (⟨a, h, e⟩ | ⟨j, e, h⟩)
      · cases e; exact ⟨0, rfl, zero.mpr h⟩
      · exact ⟨j + 1, e, h⟩
    · rintro ⟨j, e, h⟩
      cases j with
      | zero => exact .inl ⟨p, zero.mp h, by rw [e]; rfl⟩
      | succ j => exact .inr ⟨j, e, h⟩
theorem mem_owns {i : Nat} {p : Addr} : (i, p) ∈ owns 0 σ δ ↔ Own σ δ i p := by
  rw [owns_of]
  constructor
  · rintro ⟨j, e, h⟩; rw [show i = j by omega]; exact h
  · intro h; exact ⟨i, by omega, h⟩
/-- the same state as from here on -/
theorem I3.rebase (I : I3 Z B W M H σ δ) : I3 Z ⟨H, M⟩ (owns 0 σ δ) M H σ δ :=
  ⟨I.ex, fun _ _ _ e _ => e, fun _ _ e _ => e, I.len, I.sl, fun _ _ w => mem_owns.mp w, fun _ _ o => .inl (mem_owns.mpr o), I.dis⟩
theorem I3.back {W2 : List (Nat × Addr)} {σ' : St} {δ' : List S} (I : I3 Z B W M H σ δ) (hW : ∀ i p, (i, p) ∈ W2 ↔ Own σ δ i p) (J : I3 Z ⟨H, M⟩ W2 M' H' σ' δ') : I3 Z B W M' H' σ' δ' := by
  refine ⟨J.ex, fun a o e n => ?_, fun a o e n => J.keep a o (I.keep a o e n) fun i hi => ?_, J.len, J.sl, fun i p w => J.bor i p ((hW i p).mpr (I.bor i p w)), fun i p o => ?_, J.dis⟩
  · cases q : H a with
    | none => rw [I.fresh q] at e; cases e
    | some u => exact fun t => J.mg a u q (I.mg a o e n t) (I.nt e t q)
  · rcases I.own i a ((hW i a).mp hi) with q | q
    · exact n i q
    · rw [e] at q; cases q
  · rcases J.own i p o with q | q
    · exact I.own i p ((hW i p).mp q)
    · exact .inr (I.fresh q)
/-- what nobody here holds stays -/
theorem I3.stays {a : Addr} {o : HO} (J : I3 Z B W M H σ δ) (h : B.h a = some o) (hm : B.m a = none) (hn : ∀ i, (i, a) ∉ W) (t : NT o) : H a = some o ∧ (∀ i, ¬ Own σ δ i a) ∧ M a = none := by
  refine ⟨J.keep a o h hn, fun i q => ?_, J.mg a o h hm t⟩
  rcases J.own i a q with z | z
  · exact hn i z
  · rw [h] at z; cases z
end
end G
set_option Elab.async false
set_option linter.all false
set_option maxRecDepth 100000
set_option maxHeartbeats 4000000
namespace G
open PySem L2
section
variable {Z : Wd} {M H M' H' : Hp} {B : Bas} {W : List (Nat × Addr)} {σ : St} {δ : List S}
/-- a new object that nobody holds becomes a datum -/
theorem I3.hold (I : I3 Z B W M H σ δ) {p : Addr} {o : HO} (hp : H p = some o) (hm : M p = none) (hB : B.h p = none) (hn : ∀ i, ¬ Own σ δ i p) : I3 Z B W (upd M p o) H σ δ := by
  have ex : Ex M (upd M p o) := Ex.new hm
  refine ⟨fun b u q => ?_, fun a u e n => by rw [upd_ne (ne_of_none e hB)]; exact I.mg a u e n, I.keep, I.len, fun j t e => ?_, I.bor, I.own, I.dis⟩
  · by_cases z : b = p
    · subst z; rw [upd_same] at q; cases q; exact hp
    · rw [upd_ne z] at q; exact I.ex b u q
  · obtain ⟨v, c, d⟩ := I.sl j t e
    refine ⟨v, c, ?_⟩
    cases t with
    | no => trivial
    | d x => obtain ⟨u, f, g⟩ := d; exact ⟨u, f, g.mono ex⟩
    | own z =>
      obtain ⟨q, hq, f, g, k, l⟩ := d
      subst f
      have hq' : q ≠ p := fun zz => hn j (zz ▸ Own.mk c e)
      exact ⟨q, hq, rfl, g, k.mono ex, by rw [upd_ne hq']; exact l⟩
    | deal q cs n =>
      obtain ⟨r, f, g, k, l, m, o⟩ := d
      subst f
      have hr : r ≠ p := fun zz => hn j (zz ▸ ⟨r, _, c, e, .inl rfl⟩)
      have hq : q ≠ p := fun zz => hn j (zz ▸ ⟨r, _, c, e, .inr rfl⟩)
      exact ⟨r, rfl, g, k, by rw [upd_ne hr]; exact l, by rw [upd_ne hq]; exact m, o⟩
/-! ### judgements -/
def ResOk (Z : Wd) (B : Bas) (M H : Hp) (σ : St) (δ : List S) (v : V) : S → Prop
  | .no => False
  | .d x => At Z M v x
  | .own y => ∃ p ho, v = .ref p ∧ H p = some ho ∧ ODAt Z M ho y ∧ M p = none ∧ B.h p = none ∧ ∀ i, ¬ Own σ δ i p
  | .deal q cs n => ∃ p, v = .ref p ∧ SlotOk Z M H (some v) (.deal q cs n) ∧ ∀ a, Hol p (.deal q cs n) a → B.h a = none ∧ ∀ i, ¬ Own σ δ i a
/-- an expression: its answer is a datum, or a new object that nobody holds -/
def XR (Z : Wd) (te : TE) (δ : List S) (Φ : S → List S → Prop) : Prop :=
  ∀ B W M H σ (Q : VK), I3 Z B W M H σ δ → (∀ M' H' δ' v s, Φ s δ' → Ex M M' → I3 Z B W M' H' σ δ' → ResOk Z B M' H' σ δ' v s → Q v H') → te σ H Q
def onD (Φ : D → List S → Prop) : S → List S → Prop
  | .d x, δ => Φ x δ
  | _, _ => False
def onO (Φ : OD → List S → Prop) : S → List S → Prop
  | .own y, δ => Φ y δ
  | _, _ => False
abbrev XE (Z : Wd) (te : TE) (δ : List S) (Φ : D → List S → Prop) : Prop := XR Z te δ (onD Φ)
abbrev XO (Z : Wd) (te : TE) (δ : List S) (Φ : OD → List S → Prop) : Prop := XR Z te δ (onO Φ)
def XT (Z : Wd) (tt : TT) (δ : List S) (Φ : Bool → List S → Prop) : Prop :=
  ∀ B W M H σ (Q : Bool → Hp → Prop), I3 Z B W M H σ δ → (∀ M' H' δ' b, Φ b δ' → Ex M M' → I3 Z B W M' H' σ δ' → Q b H') → tt σ H Q
def XA (Z : Wd) (ta : TA) (δ : List S) (Φ : List D → List S → Prop) : Prop :=
  ∀ B W M H σ (Q : List V → Hp → Prop), I3 Z B W M H σ δ → (∀ M' H' δ' vs ds, Φ ds δ' → Ex M M' → I3 Z B W M' H' σ δ' → AtL Z M' vs ds → Q vs H') → ta σ H Q
/-- a target; vs: the slots that it may change -/
def XG (Z : Wd) (vs bs : List Nat) (g : TG) (x : D) (δ : List S) (Φ : List S → Prop) : Prop :=
  ∀ B W M H σ v (Q : St → Hp → Prop), W.map (·.1) = bs → I3 Z B W M H σ δ → At Z M v x →
    (∀ M' H' σ' δ', Φ δ' → Ex M M' → I3 Z B W M' H' σ' δ' → (∀ j, j ∉ vs → σ'[j]? = σ[j]?) → σ'.length = σ.length → Q σ' H') → g v σ H Q
structure Po where
  N : List S → Prop
  R : S → List S → Prop
  B : List S → Prop := fun _ => False
  C : List S → Prop := fun _ => False
  X : Bas → List (Nat × Addr) → Hp → Prop := fun _ _ _ => True
def RetOk (Z : Wd) (B : Bas) (M H : Hp) (v : V) : S → Prop
  | .no => False
  | .d x => At Z M v x
  | .own y => ∃ p ho, v = .ref p ∧ H p = some ho ∧ ODAt Z M ho y ∧ M p = none ∧ B.h p = none
  | .deal q cs n => ∃ p, v = .ref p ∧ SlotOk Z M H (some v) (.deal q cs n) ∧ ∀ a, Hol p (.deal q cs n) a → B.h a = none
structure EndsOk (Z : Wd) (B : Bas) (W : List (Nat × Addr)) (M : Hp) (P : Po) (E : Ends) : Prop where
  nx : ∀ M' H' σ' δ', P.N δ' → Ex M M' → I3 Z B W M' H' σ' δ' → E.nx σ' H'
  rt : ∀ M' H' σ' δ' v s, P.R s δ' → Ex M M' → I3 Z B W M' H' σ' δ' → RetOk Z B M' H' v s → E.rt v H'
  bk : ∀ M' H' σ' δ', P.B δ' → Ex M M' → I3 Z B W M' H' σ' δ' → E.bk σ' H'
  ct : ∀ M' H' σ' δ', P.C δ' → Ex M M' → I3 Z B W M' H' σ' δ' → E.ct σ' H'
  xc : ∀ M', Ex M M' → P.X B W M'
def XS (Z : Wd) (bs : List Nat) (ts : TS) (δ : List S) (P : Po) : Prop :=
  ∀ B W M H σ E, W.map (·.1) = bs → I3 Z B W M H σ δ → EndsOk Z B W M P E → ts E σ H
theorem EndsOk.mono {P : Po} {E : Ends} (e : Ex M M') (h : EndsOk Z B W M P E) : EndsOk Z B W M' P E :=
  ⟨fun _ _ _ _ p x => h.nx _ _ _ _ p (e.tr x), fun _ _ _ _ _ _ p x => h.rt _ _ _ _ _ _ p (e.tr x), fun _ _ _ _ p x => h.bk _ _ _ _ p (e.tr x), fun _ _ _ _ p x => h.ct _ _ _ _ p (e.tr x), fun _ x => h.xc _ (e.tr x)⟩
variable {te ta tb tv : TE} {tt t u : TT} {Φ : D → List S → Prop} {Ψ : S → List S → Prop}
theorem XE.run {Q : VK} (h : XE Z te δ Φ) (I : I3 Z B W M H σ δ) (k : ∀ M' H' δ' v d, Φ d δ' → Ex M M' → I3 Z B W M' H' σ δ' → At Z M' v d → Q v H') : te σ H Q :=
  h B W M H σ Q I fun M' H' δ' v s p e I' r => by
    cases s with
    | d x => exact k M' H' δ' v x p e I' r
    | _ => exact False.elim p
theorem XE.mk (h : ∀ B W M H σ (Q : VK), I3 Z B W M H σ δ → (∀ M' H' δ' v d, Φ d δ' → Ex M M' → I3 Z B W M' H' σ δ' → At Z M' v d → Q v H') → te σ H Q) : XE Z te δ Φ :=
  fun B W M H σ Q I k => h B W M H σ Q I fun M' H' δ' v d p e I' a => k M' H' δ' v (.d d) p e I' a
theorem XO.mk {Φ : OD → List S → Prop} (h : ∀ B W M H σ (Q : VK), I3 Z B W M H σ δ → (∀ M' H' δ' p ho y, Φ y δ' → Ex M M' → I3 Z B W M' H' σ δ' → H' p = some ho → ODAt Z M' ho y → M' p = none → B.h p = none → (∀ i, ¬ Own σ δ' i p) → Q (.ref p) H') → te σ H Q) : XO Z te δ Φ :=
  fun B W M H σ Q I k => h B W M H σ Q I fun M' H' δ' p ho y f e I' a b c d g => k M' H' δ' _ (.own y) f e I' ⟨p, ho, rfl, a, b, c, d, g⟩
theorem XO.run {Q : VK} {Φ : OD → List S → Prop} (h : XO Z te δ Φ) (I : I3 Z B W M H σ δ) (k : ∀ M' H' δ' p ho y, Φ y δ' → Ex M M' → I3 Z B W M' H' σ δ' → H' p = some ho → ODAt Z M' ho y → M' p = none → B.h p = none → (∀ i, ¬ Own σ δ' i p) → Q (.ref p) H') : te σ H Q :=
  h B W M H σ Q I fun M' H' δ' v s f e I' r => by
    cases s with
    | own y => obtain ⟨p, ho, rfl, a, b, c, d, g⟩ := r; exact k M' H' δ' p ho y f e I' a b c d g
    | _ => exact False.elim f
theorem XR.imp {Ψ' : S → List S → Prop} (h : XR Z te δ Ψ) (k : ∀ s δ', Ψ s δ' → Ψ' s δ') : XR Z te δ Ψ' :=
  fun B W M H σ Q I q => h B W M H σ Q I fun M' H' δ' v s p => q M' H' δ' v s (k s δ' p)
/-- a new list that is used as a datum -/
theorem xe_ofO (h : XO Z te δ fun y δ' => ∃ xs, y = .lst xs ∧ Φ (.lst xs) δ') : XE Z te δ Φ := XE.mk fun B W M H σ Q I k =>
  h.run I fun M' H' δ' p ho y f e I' a b c d g => by
    obtain ⟨xs, rfl, f⟩ := f
    obtain ⟨vs, rfl, l⟩ := b.lstI
    have ex : Ex M' (upd M' p (.lst vs)) := Ex.new c
    exact k _ _ δ' _ _ f (e.tr ex) (I'.hold a c d g) (.lst upd_same l.len (l.mono ex).at')
/-! ### names, constants -/
theorem xe_var {i : Nat} {d : D} (h : δ[i]? = some (.d d)) (k : Φ d δ) : XE Z (tVar i) δ Φ := XE.mk fun B W M H σ Q I q => by
  obtain ⟨o, e, v, rfl, a⟩ := I.sl i _ h
  exact ⟨v, e, q M H δ v d k Ex.rfl' I a⟩
theorem xe_non (k : Φ .non δ) : XE Z (tC .non) δ Φ := XE.mk fun B W M H σ Q I q => q M H δ _ _ k Ex.rfl' I .non
theorem xe_bl {b : Bool} (k : Φ (.bl b) δ) : XE Z (tC (.bl b)) δ Φ := XE.mk fun B W M H σ Q I q => q M H δ _ _ k Ex.rfl' I .bl
theorem xe_int {b : Int} (k : Φ (.int b) δ) : XE Z (tC (.int b)) δ Φ := XE.mk fun B W M H σ Q I q => q M H δ _ _ k Ex.rfl' I .int
theorem xe_str {b : Str} (k : Φ (.str b) δ) : XE Z (tC (.str b)) δ Φ := XE.mk fun B W M H σ Q I q => q M H δ _ _ k Ex.rfl' I .str
/-! ### ints -/
theorem xe_I0 {g : Int → Int → Int} (h : XE Z ta δ fun a δ1 => XE Z tb δ1 fun b δ2 => ∃ i j, a = .int i ∧ b = .int j ∧ Φ (.int (g i j)) δ2) : XE Z (tOp (rI0 fun i j => .int (g i j)) ta tb) δ Φ := XE.mk fun B W M H σ Q I q =>
  h.run I fun M1 H1 δ1 x a h1 e1 I1 at1 => XE.run h1 I1 fun M2 H2 δ2 y b h2 e2 I2 at2 => by
    obtain ⟨i, j, rfl, rfl, f⟩ := h2
    cases at1; cases at2
    exact ⟨i, j, rfl, rfl, q M2 H2 δ2 _ _ f (e1.tr e2) I2 .int⟩
theorem xe_I {C : Int → Int → Prop} {g : Int → Int → Int} (h : XE Z ta δ fun a δ1 => XE Z tb δ1 fun b δ2 => ∃ i j, a = .int i ∧ b = .int j ∧ C i j ∧ Φ (.int (g i j)) δ2) : XE Z (tOp (rI C fun i j => .int (g i j)) ta tb) δ Φ := XE.mk fun B W M H σ Q I q =>
  h.run I fun M1 H1 δ1 x a h1 e1 I1 at1 => XE.run h1 I1 fun M2 H2 δ2 y b h2 e2 I2 at2 => by
    obtain ⟨i, j, rfl, rfl, c, f⟩ := h2
    cases at1; cases at2
    exact ⟨i, j, rfl, rfl, c, q M2 H2 δ2 _ _ f (e1.tr e2) I2 .int⟩
theorem xe_B0 {g : Int → Int → Bool} (h : XE Z ta δ fun a δ1 => XE Z tb δ1 fun b δ2 => ∃ i j, a = .int i ∧ b = .int j ∧ Φ (.bl (g i j)) δ2) : XE Z (tOp (rI0 fun i j => .bl (g i j)) ta tb) δ Φ := XE.mk fun B W M H σ Q I q =>
  h.run I fun M1 H1 δ1 x a h1 e1 I1 at1 => XE.run h1 I1 fun M2 H2 δ2 y b h2 e2 I2 at2 => by
    obtain ⟨i, j, rfl, rfl, f⟩ := h2
    cases at1; cases at2
    exact ⟨i, j, rfl, rfl, q M2 H2 δ2 _ _ f (e1.tr e2) I2 .bl⟩
/-! ### scalars -/
def sc : D → Option V
  | .non => some .non | .bl b => some (.bl b) | .int i => some (.int i) | .str s => some (.str s)
  | _ => none
theorem At.scal {v w : V} {d : D} (a : At Z M v d) (h : sc d = some w) : v = w := by
  cases a <;> simp [sc] at h <;> exact h
theorem xe_eq (h : XE Z ta δ fun a δ1 => XE Z tb δ1 fun b δ2 => ∃ v w, sc a = some v ∧ sc b = some w ∧ scal v w = true ∧ Φ (.bl (decide (v = w))) δ2) : XE Z (tOp rEq ta tb) δ Φ := XE.mk fun B W M H σ Q I q =>
  h.run I fun M1 H1 δ1 x a h1 e1 I1 at1 => XE.run h1 I1 fun M2 H2 δ2 y b h2 e2 I2 at2 => by
    obtain ⟨v, w, s1, s2, c, f⟩ := h2
    cases at1.scal s1; cases at2.scal s2
    exact ⟨c, q M2 H2 δ2 _ _ f (e1.tr e2) I2 .bl⟩
theorem xe_ne (h : XE Z ta δ fun a δ1 => XE Z tb δ1 fun b δ2 => ∃ v w, sc a = some v ∧ sc b = some w ∧ scal v w = true ∧ Φ (.bl (!decide (v = w))) δ2) : XE Z (tOp rNe ta tb) δ Φ := XE.mk fun B W M H σ Q I q =>
  h.run I fun M1 H1 δ1 x a h1 e1 I1 at1 => XE.run h1 I1 fun M2 H2 δ2 y b h2 e2 I2 at2 => by
    obtain ⟨v, w, s1, s2, c, f⟩ := h2
    cases at1.scal s1; cases at2.scal s2
    exact ⟨c, q M2 H2 δ2 _ _ f (e1.tr e2) I2 .bl⟩
/-! ### any data: == and != -/
mutual
def py : D → PyData
  | .non => .none | .bl b => .bool b | .int i => .int i | .str s => .str s
  | .lst xs => .list (pyL xs) | .tup xs => .tuple (pyL xs)
  | .obj _ _ => .none | .scr ns => .list (ns.map .int) | .exc _ _ _ _ => .none | .dic _ _ => .none | .tupF _ => .none | .ref _ => .none | .tupT xs => .tuple (pyL xs) | .dicF _ _ => .none | .dicT _ _ => .none | .err _ _ => .none | .er0 _ => .none | .fn _ _ => .none
def pyL : List D → List PyData
  | [] => []
  | x :: xs => py x :: pyL xs
end
mutual
def pla : D → Bool
  | .non => true | .bl b => true | .int i => true | .str s => true
  | .lst xs => plaL xs | .tup xs => plaL xs
  | .obj _ _ => false | .scr _ => false | .exc _ _ _ _ => false | .dic _ _ => false | .tupF _ => false | .ref _ => false | .tupT xs => plaL xs | .dicF _ _ => false | .dicT _ _ => false | .err _ _ => false | .er0 _ => false | .fn _ _ => false
def plaL : List D → Bool
  | [] => true
  | x :: xs => pla x && plaL xs
end
mutual
theorem At.dp : ∀ (d : D) (v : V), At Z M v d → Ex M H → pla d = true → Dp Z.K H v (py d)
  | .non, _, .non, _, _ => .non
  | .bl _, _, .bl, _, _ => .bl _
  | .int _, _, .int, _, _ => .int _
  | .str _, _, .str, _, _ => .str _
  | .lst ds, _, .lst h l k, e, p => .lst (SqL.of (e _ _ h)) (AtL.dp ds _ ⟨l, k⟩ e p)
  | .tup ds, _, .tup h l k, e, p => .tup (sqT_mono e h) (AtL.dp ds _ ⟨l, k⟩ e p)
  | .tupT ds, _, .tupT h l k, e, p => .tup (.inl (.inl (e _ _ h))) (AtL.dp ds _ ⟨l, k⟩ e p)
theorem AtL.dp : ∀ (ds : List D) (vs : List V), AtL Z M vs ds → Ex M H → plaL ds = true → DpAll Z.K H vs (pyL ds)
  | [], vs, a, _, _ => by rw [a.inv0]; exact .nil
  | d :: ds, vs, a, e, p => by
    obtain ⟨v, ws, rfl, a1, a2⟩ := a.inv
    have p' : (pla d && plaL ds) = true := p
    rw [Bool.and_eq_true] at p'
    exact .cons (At.dp d v a1 e p'.1) (AtL.dp ds ws a2 e p'.2)
end
theorem xe_eqD (h : XE Z ta δ fun a δ1 => XE Z tb δ1 fun b δ2 => pla a = true ∧ pla b = true ∧ SeqAt.shaped (py a) = true ∧ SeqAt.shaped (py b) = true ∧ Φ (.bl (PyData.eqv (py a) (py b))) δ2) : XE Z (tOp (rEqD Z.K) ta tb) δ Φ := XE.mk fun B W M H σ Q I q =>
  h.run I fun M1 H1 δ1 x a h1 e1 I1 at1 => XE.run h1 I1 fun M2 H2 δ2 y b h2 e2 I2 at2 => by
    obtain ⟨pa, pb, sa, sb, f⟩ := h2
    exact ⟨_, _, At.dp a x (at1.mono e2) I2.ex pa, At.dp b y at2 I2.ex pb, sa, sb, q M2 H2 δ2 _ _ f (e1.tr e2) I2 .bl⟩
theorem xe_neD (h : XE Z ta δ fun a δ1 => XE Z tb δ1 fun b δ2 => pla a = true ∧ pla b = true ∧ SeqAt.shaped (py a) = true ∧ SeqAt.shaped (py b) = true ∧ Φ (.bl (!PyData.eqv (py a) (py b))) δ2) : XE Z (tOp (rNeD Z.K) ta tb) δ Φ := XE.mk fun B W M H σ Q I q =>
  h.run I fun M1 H1 δ1 x a h1 e1 I1 at1 => XE.run h1 I1 fun M2 H2 δ2 y b h2 e2 I2 at2 => by
    obtain ⟨pa, pb, sa, sb, f⟩ := h2
    exact ⟨_, _, At.dp a x (at1.mono e2) I2.ex pa, At.dp b y at2 I2.ex pb, sa, sb, q M2 H2 δ2 _ _ f (e1.tr e2) I2 .bl⟩
/-! ### tests -/
variable {Θ : Bool → List S → Prop}
theorem xt_test (h : XE Z te δ fun d δ' => ∃ b, d = .bl b ∧ Θ b δ') : XT Z (tTest te) δ Θ := fun B W M H σ Q I q =>
  h.run I fun M1 H1 δ1 x a h1 e1 I1 at1 => by
    obtain ⟨b, rfl, f⟩ := h1
    cases at1
    exact ⟨b, rfl, q M1 H1 δ1 b f e1 I1⟩
theorem xt_B (h : XE Z te δ fun d δ' => ∃ b, d = .bl b ∧ Θ b δ') : XT Z (tB te) δ Θ := fun B W M H σ Q I q =>
  h.run I fun M1 H1 δ1 x a h1 e1 I1 at1 => by
    obtain ⟨b, rfl, f⟩ := h1
    cases at1
    exact ⟨b, rfl, q M1 H1 δ1 b f e1 I1⟩
theorem xt_and (h : XT Z t δ fun b δ' => if b = true then XT Z u δ' Θ else Θ false δ') : XT Z (tAnd t u) δ Θ := fun B W M H σ Q I q =>
  h B W M H σ _ I fun M1 H1 δ1 b h1 e1 I1 => by
    cases b with
    | true => rw [if_pos rfl] at h1 ⊢; exact h1 B W M1 H1 σ Q I1 fun M2 H2 δ2 c h2 e2 I2 => q M2 H2 δ2 c h2 (e1.tr e2) I2
    | false => rw [if_neg Bool.false_ne_true] at h1 ⊢; exact q M1 H1 δ1 _ h1 e1 I1
theorem xt_or (h : XT Z t δ fun b δ' => if b = true then Θ true δ' else XT Z u δ' Θ) : XT Z (tOr t u) δ Θ := fun B W M H σ Q I q =>
  h B W M H σ _ I fun M1 H1 δ1 b h1 e1 I1 => by
    cases b with
    | false => rw [if_neg Bool.false_ne_true] at h1 ⊢; exact h1 B W M1 H1 σ Q I1 fun M2 H2 δ2 c h2 e2 I2 => q M2 H2 δ2 c h2 (e1.tr e2) I2
    | true => rw [if_pos rfl] at h1 ⊢; exact q M1 H1 δ1 _ h1 e1 I1
theorem xt_not (h : XT Z t δ fun b δ' => Θ (!b) δ') : XT Z (tNot t) δ Θ := fun B W M H σ Q I q =>
  h B W M H σ _ I fun M1 H1 δ1 b h1 e1 I1 => q M1 H1 δ1 _ h1 e1 I1
theorem xt_yes (k : Θ true δ) : XT Z tYes δ Θ := fun B W M H σ Q I q => q M H δ true k Ex.rfl' I
/-- truth -/
def tru : D → Option Bool
  | .non => some false | .bl b => some b | .int i => some (i != 0) | .str s => some (decide (s.length ≤ sizeLine) && ((s.length : Int) != 0)) | .lst xs => some (!xs.isEmpty) | .tup xs => some (!xs.isEmpty)
  | _ => none
theorem empty_of {vs : List V} {ds : List D} (a : AtL Z M vs ds) : (!ds.isEmpty) = !vs.isEmpty := by
  have := a.len
  cases vs <;> cases ds <;> simp at this ⊢
theorem tru_of {v : V} {d : D} {b : Bool} (a : At Z M v d) (e : Ex M H) (hs : ∀ s, d = .str s → s.length ≤ sizeLine) (h : tru d = some b) : TruV Z.K v H b := by
  cases a with
  | non => cases h; rfl
  | bl => cases h; rfl
  | int => cases h; rfl
  | str =>
    have hs := hs _ rfl
    refine ⟨hs, ?_⟩
    simp only [tru, hs, decide_true, Bool.true_and, Option.some.injEq] at h
    exact h.symm
  | lst h1 l k => cases h; exact .inl ⟨_, SqL.of (e _ _ h1), empty_of ⟨l, k⟩⟩
  | tup h1 l k => cases h; exact .inr (.inl ⟨_, sqT_mono e h1, empty_of ⟨l, k⟩⟩)
  | _ => cases h
theorem xt_truth (h : XE Z ta δ fun d δ' => (∀ s, d = .str s → s.length ≤ sizeLine) ∧ ∃ b, tru d = some b ∧ Θ b δ') : XT Z (fun σ H Q => ta σ H fun x H' => ∃ k, TruV Z.K x H' k ∧ Q k H') δ Θ := fun B W M H σ Q I q =>
  h.run I fun M1 H1 δ1 x a h1 e1 I1 at1 => by
    obtain ⟨hs, b, e, f⟩ := h1
    exact ⟨b, tru_of at1 I1.ex hs e, q M1 H1 δ1 b f e1 I1⟩
/-- and, or, not as values -/
theorem xe_andV (h : XE Z ta δ fun a δ1 => ∃ c, a = .bl c ∧ if c = true then XE Z tb δ1 Φ else Φ (.bl false) δ1) : XE Z (tAndV ta tb) δ Φ := XE.mk fun B W M H σ Q I q =>
  h.run I fun M1 H1 δ1 x a h1 e1 I1 at1 => by
    obtain ⟨c, rfl, f⟩ := h1
    cases at1
    refine ⟨c, rfl, ?_⟩
    cases c with
    | true => rw [if_pos rfl] at f ⊢; exact XE.run f I1 fun M2 H2 δ2 y b h2 e2 I2 at2 => q M2 H2 δ2 y b h2 (e1.tr e2) I2 at2
    | false => rw [if_neg Bool.false_ne_true] at f ⊢; exact q M1 H1 δ1 _ _ f e1 I1 .bl
theorem xe_orV (h : XE Z ta δ fun a δ1 => ∃ c, a = .bl c ∧ if c = true then Φ (.bl true) δ1 else XE Z tb δ1 Φ) : XE Z (tOrV ta tb) δ Φ := XE.mk fun B W M H σ Q I q =>
  h.run I fun M1 H1 δ1 x a h1 e1 I1 at1 => by
    obtain ⟨c, rfl, f⟩ := h1
    cases at1
    refine ⟨c, rfl, ?_⟩
    cases c with
    | false => rw [if_neg Bool.false_ne_true] at f ⊢; exact XE.run f I1 fun M2 H2 δ2 y b h2 e2 I2 at2 => q M2 H2 δ2 y b h2 (e1.tr e2) I2 at2
    | true => rw [if_pos rfl] at f ⊢; exact q M1 H1 δ1 _ _ f e1 I1 .bl
theorem xr_if (h : XT Z t δ fun b δ' => if b = true then XR Z ta δ' Ψ else XR Z tb δ' Ψ) : XR Z (tIf t ta tb) δ Ψ := fun B W M H σ Q I q =>
  h B W M H σ _ I fun M1 H1 δ1 b h1 e1 I1 => by
    cases b with
    | true => rw [if_pos rfl] at h1 ⊢; exact h1 B W M1 H1 σ Q I1 fun M2 H2 δ2 v s h2 e2 I2 => q M2 H2 δ2 v s h2 (e1.tr e2) I2
    | false => rw [if_neg Bool.false_ne_true] at h1 ⊢; exact h1 B W M1 H1 σ Q I1 fun M2 H2 δ2 v s h2 e2 I2 => q M2 H2 δ2 v s h2 (e1.tr e2) I2
/-! ### argument lists, displays -/
variable {Λ : List D → List S → Prop} {ts : TA}
theorem xa_nil (k : Λ [] δ) : XA Z tNil δ Λ := fun B W M H σ Q I q => q M H δ [] [] k Ex.rfl' I .nil
theorem xa_cons (h : XE Z te δ fun d δ1 => XA Z ts δ1 fun ds δ2 => Λ (d :: ds) δ2) : XA Z (tCons te ts) δ Λ := fun B W M H σ Q I q =>
  h.run I fun M1 H1 δ1 x a h1 e1 I1 at1 => h1 B W M1 H1 σ _ I1 fun M2 H2 δ2 vs ds h2 e2 I2 at2 => q M2 H2 δ2 _ _ h2 (e1.tr e2) I2 (.cons (at1.mono e2) at2)
theorem xa_star (h : XE Z te δ fun d δ1 => ∃ xs, (d = .lst xs ∨ d = .tup xs) ∧ XA Z ts δ1 fun ds δ2 => Λ (xs ++ ds) δ2) : XA Z (StX.tStar Z.K te ts) δ Λ := fun B W M H σ Q I q =>
  h.run I fun M1 H1 δ1 x a h1 e1 I1 at1 => by
    obtain ⟨xs, hx, h1⟩ := h1
    have : ∃ p vs, x = .ref p ∧ (SqT Z.K H1 p vs ∨ SqL Z.K H1 p vs) ∧ AtL Z M1 vs xs := by
      rcases hx with rfl | rfl
      · cases at1 with | lst h l k => exact ⟨_, _, rfl, .inr (SqL.of (I1.ex _ _ h)), l, k⟩
      · cases at1 with | tup h l k => exact ⟨_, _, rfl, .inl (sqT_mono I1.ex h), l, k⟩
    obtain ⟨p, vs, rfl, sq, al⟩ := this
    exact ⟨p, vs, rfl, sq, h1 B W M1 H1 σ _ I1 fun M2 H2 δ2 ws ds h2 e2 I2 at2 => q M2 H2 δ2 _ _ h2 (e1.tr e2) I2 (AtL.app (al.mono e2) at2)⟩
theorem xe_tup (h : XA Z ts δ fun ds δ1 => ds.length ≤ 1000000 ∧ Φ (.tup ds) δ1) : XE Z (tTup ts) δ Φ := XE.mk fun B W M H σ Q I q =>
  h B W M H σ _ I fun M1 H1 δ1 vs ds h1 e1 I1 al => by
    refine ⟨Nat.le_trans (by rw [al.len]; exact h1.1) (by decide), fun p hp => ?_⟩
    have hm := I1.ex.free hp
    exact q _ _ δ1 _ _ h1.2 (e1.tr (Ex.new hm)) (I1.grow hp) (.tup (SqT.of upd_same) al.len (al.mono (Ex.new hm)).at')
theorem I3.newOwn (I : I3 Z B W M H σ δ) {p : Addr} (h : H p = none) : ∀ i, ¬ Own σ δ i p := fun i o => by
  obtain ⟨_, e, _⟩ := I.ownAt o
  rw [h] at e; cases e
theorem xo_lst {Φ : OD → List S → Prop} (h : XA Z ts δ fun ds δ1 => ds.length ≤ 1000000 ∧ Φ (.lst ds) δ1) : XO Z (tLst ts) δ Φ := XO.mk fun B W M H σ Q I q =>
  h B W M H σ _ I fun M1 H1 δ1 vs ds h1 e1 I1 al => by
    refine ⟨Nat.le_trans (by rw [al.len]; exact h1.1) (by decide), fun p hp => ?_⟩
    have hm := I1.ex.free hp
    exact q M1 _ δ1 p _ _ h1.2 e1 (I1.other (I1.fresh hp) hm (I1.newOwn hp)) upd_same al hm (I1.fresh hp) (I1.newOwn hp)
/-! ### statements -/
variable {bs : List Nat} {P : Po} {s1 s2 : TS}
theorem xs_seq (h : XS Z bs s1 δ { P with N := fun δ' => XS Z bs s2 δ' P }) : XS Z bs (tSeq s1 s2) δ P := fun B W M H σ E hb I e =>
  h B W M H σ _ hb I ⟨fun M' H' σ' δ' p x I' => p B W M' H' σ' E hb I' (e.mono x), e.rt, e.bk, e.ct, e.xc⟩
theorem xs_next (k : P.N δ) : XS Z bs tNext δ P := fun B W M H σ E hb I e => e.nx M H σ δ k Ex.rfl' I
theorem xs_if (h : XT Z t δ fun b δ' => if b = true then XS Z bs s1 δ' P else XS Z bs s2 δ' P) : XS Z bs (tIfS t s1 s2) δ P := fun B W M H σ E hb I e =>
  h B W M H σ _ I fun M1 H1 δ1 b h1 e1 I1 => by
    cases b with
    | true => rw [if_pos rfl] at h1 ⊢; exact h1 B W M1 H1 σ E hb I1 (e.mono e1)
    | false => rw [if_neg Bool.false_ne_true] at h1 ⊢; exact h1 B W M1 H1 σ E hb I1 (e.mono e1)
theorem slotD {v : V} {x : D} (a : At Z M v x) : SlotOk Z M H (some v) (.d x) := ⟨v, rfl, a⟩
theorem not_bor {i : Nat} (hb : W.map (·.1) = bs) (hi : i ∉ bs) (p : Addr) : (i, p) ∉ W := fun h => hi (hb ▸ List.mem_map_of_mem h)
theorem xs_set {i : Nat} (hi : i ∉ bs) (h : XE Z te δ fun d δ' => P.N (δ'.set i (.d d))) : XS Z bs (tAsg te (gName i)) δ P := fun B W M H σ E hb I e =>
  h.run I fun M1 H1 δ1 x a h1 e1 I1 at1 => e.nx _ _ _ _ h1 e1 (I1.put (not_bor hb hi) (hol_d _) (slotD at1))
theorem xs_setO {i : Nat} (hi : i ∉ bs) (h : XO Z te δ fun y δ' => i < δ'.length ∧ P.N (δ'.set i (.own y))) : XS Z bs (tAsg te (gName i)) δ P := fun B W M H σ E hb I e =>
  XO.run h I fun M1 H1 δ1 p ho y h1 e1 I1 a b c d g => e.nx _ _ _ _ h1.2 e1 (I1.putO (not_bor hb hi) h1.1 a b c d g)
/-- x, y = a, b -/
theorem xs_par {i j : Nat} (hi : i ∉ bs) (hj : j ∉ bs) (h : XE Z ta δ fun a δ1 => XE Z tb δ1 fun b δ2 => P.N ((δ2.set i (.d a)).set j (.d b))) : XS Z bs (tPar i j (tCons ta (tCons tb tNil))) δ P := fun B W M H σ E hb I e =>
  h.run I fun M1 H1 δ1 x a h1 e1 I1 at1 => XE.run h1 I1 fun M2 H2 δ2 y b h2 e2 I2 at2 =>
    ⟨x, y, rfl, e.nx _ _ _ _ h2 (e1.tr e2) ((I2.put (not_bor hb hi) (hol_d _) (slotD (at1.mono e2))).put (not_bor hb hj) (hol_d _) (slotD at2))⟩
theorem Own.setX {i j : Nat} {p q : Addr} {y : OD} (h : Own (σ.set i (some (.ref q))) (δ.set i (.own y)) j p) : (j = i ∧ p = q) ∨ Own σ δ j p := by
  obtain ⟨r, z, a, b, c⟩ := h
  by_cases e : i = j
  · subst e
    rw [List.getElem?_set] at a b
    split at a
    · split at a
      · cases a
        rename_i h1 h2
        rw [if_pos rfl] at b
        split at b
        · cases b; cases c; exact .inl ⟨rfl, rfl⟩
        · cases b
      · cases a
    · rename_i q; exact absurd rfl q
  · rw [List.getElem?_set_ne e] at a b
    exact .inr ⟨r, z, a, b, c⟩
theorem xs_parOO {i j : Nat} (hi : i ∉ bs) (hj : j ∉ bs) (hij : i ≠ j) (h : XO Z ta δ fun a δ1 => XO Z tb δ1 fun b δ2 => i < δ2.length ∧ j < δ2.length ∧ P.N ((δ2.set i (.own a)).set j (.own b))) : XS Z bs (tPar i j (tCons ta (tCons tb tNil))) δ P := fun B W M H σ E hb I e =>
  XO.run h I fun M1 H1 δ1 p ho a h1 e1 I1 a1 a2 a3 a4 a5 => XO.run h1 I1.rebase fun M2 H2 δ2 q hq b h2 e2 J c1 c2 c3 c4 c5 => by
    obtain ⟨k1, k2, k3⟩ := J.stays a1 a3 (fun i hi => a5 i (mem_owns.mp hi)) (.own a2)
    have I2 := I1.back (fun _ _ => mem_owns) J
    have c4 : H1 q = none := c4
    have hpq : q ≠ p := fun z => by rw [z, a1] at c4; cases c4
    have I3' := (I2.putO (i := i) (not_bor hb hi) h2.1 k1 (a2.mono e2) k3 a4 k2).putO (i := j) (not_bor hb hj) (by rw [List.length_set]; exact h2.2.1) c1 c2 c3 (I1.fresh c4) fun k o => by
      rcases Own.setX o with ⟨_, z⟩ | z
      · exact hpq z
      · exact c5 k z
    exact ⟨_, _, rfl, e.nx _ _ _ _ h2.2.2 (e1.tr e2) I3'⟩
end
end G
set_option Elab.async false
set_option linter.all false
set_option maxRecDepth 100000
set_option maxHeartbeats 4000000
namespace G
open PySem L2
section
variable {Z : Wd} {M H M' H' : Hp} {B : Bas} {W : List (Nat × Addr)} {σ : St} {δ : List S}
variable {te ta tb tv : TE} {tt t u : TT} {Φ : D → List S → Prop} {Ψ : S → List S → Prop} {Ω : OD → List S → Prop} {Λ : List D → List S → Prop} {ts : TA}
/-! ### places -/
theorem atI_at {vs : List V} {xs : List D} {k : Int} {d : D} (a : AtL Z M vs xs) (h : atI xs k = some d) : ∃ v, atI vs k = some v ∧ At Z M v d := by
  unfold atI at h ⊢
  rw [a.len]
  cases e : ixN xs.length k with
  | none => rw [e] at h; cases h
  | some j =>
    rw [e] at h
    exact a.get h
def ixD : D → Int → Option D
  | .lst xs, k => atI xs k
  | .tup xs, k => atI xs k
  | .str s, k => if s.length ≤ sizeLine then (atI s.cps.toList k).map fun c => .str ⟨#[c]⟩ else none
  | .scr ns, k => (atI ns k).map .int
  | _, _ => none
theorem atI_map {α β : Type} {f : α → β} {xs : List α} {k : Int} : atI (xs.map f) k = (atI xs k).map f := by
  unfold atI
  rw [List.length_map]
  cases ixN xs.length k with
  | none => rfl
  | some j => simp
theorem xe_ix (h : XE Z ta δ fun a δ1 => XE Z tb δ1 fun b δ2 => ∃ k d, b = .int k ∧ ixD a k = some d ∧ Φ d δ2) : XE Z (tOp (rIx Z.K) ta tb) δ Φ := XE.mk fun B W M H σ Q I q =>
  h.run I fun M1 H1 δ1 x a h1 e1 I1 at1 => XE.run h1 I1 fun M2 H2 δ2 y b h2 e2 I2 at2 => by
    obtain ⟨k, d, rfl, e, f⟩ := h2
    cases at2
    have q' := fun v a => q M2 H2 δ2 v d f (e1.tr e2) I2 a
    cases at1.mono e2 with
    | lst h l c =>
      obtain ⟨v, e', a⟩ := atI_at ⟨l, c⟩ e
      exact .inl ⟨_, _, _, _, rfl, rfl, SqL.of (I2.ex _ _ h), e', q' v a⟩
    | tup h l c =>
      obtain ⟨v, e', a⟩ := atI_at ⟨l, c⟩ e
      exact .inr (.inl ⟨_, _, _, _, rfl, rfl, sqT_mono I2.ex h, e', q' v a⟩)
    | str =>
      simp only [ixD] at e
      split at e
      · rename_i hs
        cases e1 : atI _ k with
        | none => rw [e1] at e; cases e
        | some c => rw [e1] at e; cases e; exact .inr (.inr ⟨_, _, _, rfl, rfl, hs, e1, q' _ .str⟩)
      · cases e
    | scr h =>
      simp only [ixD] at e
      cases e1 : atI _ k with
      | none => rw [e1] at e; cases e
      | some c => rw [e1] at e; cases e; exact .inl ⟨_, _, _, _, rfl, rfl, sqL_mono I2.ex h, by rw [atI_map, e1]; rfl, q' _ .int⟩
    | _ => cases e
theorem xe_ixO {i : Nat} (h : XE Z tb δ fun b δ2 => ∃ xs k d, δ2[i]? = some (.own (.lst xs)) ∧ b = .int k ∧ atI xs k = some d ∧ Φ d δ2) (hv : ∃ y, δ[i]? = some (.own y)) : XE Z (tOp (rIx Z.K) (tVar i) tb) δ Φ := XE.mk fun B W M H σ Q I q => by
  obtain ⟨y, hy⟩ := hv
  obtain ⟨o, e, p, ho, rfl, _⟩ := I.sl i _ hy
  refine ⟨_, e, h.run I fun M2 H2 δ2 y b h2 e2 I2 at2 => ?_⟩
  obtain ⟨xs, k, d, hx, rfl, e3, f⟩ := h2
  cases at2
  obtain ⟨o', e', p', ho', rfl, hp', hy', _⟩ := I2.sl i _ hx
  rw [e] at e'; cases e'
  obtain ⟨vs, rfl, a⟩ := hy'.lstI
  obtain ⟨v, e4, a'⟩ := atI_at a e3
  exact .inl ⟨_, _, _, _, rfl, rfl, SqL.of hp', e4, q M2 H2 δ2 v d f e2 I2 a'⟩
/-! ### scalars in lists -/
def scs : List D → Option (List V)
  | [] => some []
  | x :: xs => match sc x, scs xs with
    | some v, some vs => some (v :: vs)
    | _, _ => none
theorem scs_of : ∀ {xs : List D} {vs ws : List V}, AtL Z M vs xs → scs xs = some ws → vs = ws ∧ ws.all flatV = true
  | [], vs, ws, a, h => by cases h; exact ⟨a.inv0, rfl⟩
  | x :: xs, vs, ws, a, h => by
    obtain ⟨v, us, rfl, a1, a2⟩ := a.inv
    unfold scs at h
    cases e1 : sc x with
    | none => rw [e1] at h; cases h
    | some w =>
      cases e2 : scs xs with
      | none => rw [e1, e2] at h; cases h
      | some ww =>
        rw [e1, e2] at h; cases h
        obtain ⟨r1, r2⟩ := scs_of a2 e2
        have r3 := a1.scal e1
        subst r1; subst r3
        refine ⟨rfl, ?_⟩
        rw [List.all_cons, r2, Bool.and_true]
        cases a1 <;> first | rfl | cases e1
theorem scs_strs : ∀ (ss : List Str), scs (ss.map .str) = some (ss.map V.str)
  | [] => rfl
  | s :: ss => by show (match sc (.str s), scs (ss.map .str) with | some v, some vs => some (v :: vs) | _, _ => none) = _; rw [scs_strs ss]; rfl
theorem sc_flat {d : D} {v : V} (h : sc d = some v) : flatV v = true := by
  cases d <;> simp [sc] at h <;> subst h <;> rfl
theorem inV_strs (s : Str) (ss : List Str) : inV (.str s) (ss.map V.str) = decide (s ∈ ss) := by
  unfold inV
  rw [List.any_map]
  induction ss with
  | nil => rfl
  | cons t ss ih =>
    rw [List.any_cons, ih, Bool.eq_iff_iff]
    show ((t == s) || decide (s ∈ ss)) = true ↔ decide (s ∈ t :: ss) = true
    rw [Bool.or_eq_true, decide_eq_true_iff, decide_eq_true_iff, List.mem_cons, beq_iff_eq]
    constructor
    · rintro (h | h)
      · exact .inl h.symm
      · exact .inr h
    · rintro (h | h)
      · exact .inl h.symm
      · exact .inr h
/-- x in ys -/
theorem xe_in {neg : Bool} (h : XE Z ta δ fun a δ1 => XE Z tb δ1 fun b δ2 => ∃ v xs ws, sc a = some v ∧ (b = .lst xs ∨ b = .tup xs) ∧ scs xs = some ws ∧ Φ (.bl (if neg then !inV v ws else inV v ws)) δ2) : XE Z (tOp (rIn Z.K neg) ta tb) δ Φ := XE.mk fun B W M H σ Q I q =>
  h.run I fun M1 H1 δ1 x a h1 e1 I1 at1 => XE.run h1 I1 fun M2 H2 δ2 y b h2 e2 I2 at2 => by
    obtain ⟨v, xs, ws, s1, hb, s2, f⟩ := h2
    cases at1.scal s1
    rcases hb with rfl | rfl
    · cases at2 with
      | lst h l c =>
        obtain ⟨rfl, fl⟩ := scs_of ⟨l, c⟩ s2
        exact ⟨_, _, rfl, .inl (SqL.of (I2.ex _ _ h)), sc_flat s1, fl, q M2 H2 δ2 _ _ f (e1.tr e2) I2 .bl⟩
    · cases at2 with
      | tup h l c =>
        obtain ⟨rfl, fl⟩ := scs_of ⟨l, c⟩ s2
        exact ⟨_, _, rfl, .inr (sqT_mono I2.ex h), sc_flat s1, fl, q M2 H2 δ2 _ _ f (e1.tr e2) I2 .bl⟩
theorem xe_inO {neg : Bool} {i : Nat} (h : XE Z ta δ fun a δ1 => ∃ v xs ws, sc a = some v ∧ δ1[i]? = some (.own (.lst xs)) ∧ scs xs = some ws ∧ Φ (.bl (if neg then !inV v ws else inV v ws)) δ1) : XE Z (tOp (rIn Z.K neg) ta (tVar i)) δ Φ := XE.mk fun B W M H σ Q I q =>
  h.run I fun M1 H1 δ1 x a h1 e1 I1 at1 => by
    obtain ⟨v, xs, ws, s1, hb, s2, f⟩ := h1
    cases at1.scal s1
    obtain ⟨o', e', p', ho', rfl, hp', hy', _⟩ := I1.sl i _ hb
    obtain ⟨vs, rfl, a⟩ := hy'.lstI
    obtain ⟨rfl, fl⟩ := scs_of a s2
    exact ⟨_, e', _, _, rfl, .inl (SqL.of hp'), sc_flat s1, fl, q M1 H1 δ1 _ _ f e1 I1 .bl⟩
/-- one sign in a text -/
theorem xe_inS (h : XE Z ta δ fun a δ1 => XE Z tb δ1 fun b δ2 => ∃ c z, a = .str ⟨#[c]⟩ ∧ b = .str z ∧ Φ (.bl (decide (c ∈ z.cps.toList))) δ2) : XE Z (tOp (fun x y H Q => ∃ (c : Nat) (z : Str), x = .str ⟨#[c]⟩ ∧ y = .str z ∧ Q (.bl (decide (c ∈ z.cps.toList))) H) ta tb) δ Φ := XE.mk fun B W M H σ Q I q =>
  h.run I fun M1 H1 δ1 x a h1 e1 I1 at1 => XE.run h1 I1 fun M2 H2 δ2 y b h2 e2 I2 at2 => by
    obtain ⟨c, z, rfl, rfl, f⟩ := h2
    cases at1; cases at2
    exact ⟨c, z, rfl, rfl, q M2 H2 δ2 _ _ f (e1.tr e2) I2 .bl⟩
/-! ### built-in functions -/
abbrev rLen (K : PySem.W.Frag) : List V → Hp → VK → Prop := fun xs H Q => ∃ x n, xs = [x] ∧ LenV K x H n ∧ Q (.int (n : Nat)) H
def lenD : D → Option Nat
  | .lst xs => some xs.length | .tup xs => some xs.length | .scr ns => some ns.length
  | .str s => if s.length ≤ sizeLine then some s.length else none
  | _ => none
theorem xe_len (h : XE Z te δ fun d δ1 => ∃ n, lenD d = some n ∧ Φ (.int n) δ1) : XE Z (tCB (rLen Z.K) (tCons te tNil)) δ Φ := XE.mk fun B W M H σ Q I q =>
  h.run I fun M1 H1 δ1 x a h1 e1 I1 at1 => by
    obtain ⟨n, e, f⟩ := h1
    refine ⟨x, n, rfl, ?_, q M1 H1 δ1 _ _ f e1 I1 .int⟩
    cases at1 with
    | lst h l c => cases e; exact .inl ⟨_, SqL.of (I1.ex _ _ h), l.symm⟩
    | tup h l c => cases e; exact .inr ⟨_, sqT_mono I1.ex h, l.symm⟩
    | scr h => cases e; exact .inl ⟨_, sqL_mono I1.ex h, by simp⟩
    | str =>
      simp only [lenD] at e
      split at e
      · rename_i hs; cases e; exact ⟨hs, rfl⟩
      · cases e
    | _ => cases e
theorem xe_lenO {i : Nat} {xs : List D} (h : δ[i]? = some (.own (.lst xs))) (k : Φ (.int xs.length) δ) : XE Z (tCB (rLen Z.K) (tCons (tVar i) tNil)) δ Φ := XE.mk fun B W M H σ Q I q => by
  obtain ⟨o', e', p', ho', rfl, hp', hy', _⟩ := I.sl i _ h
  obtain ⟨vs, rfl, a⟩ := hy'.lstI
  exact ⟨_, e', _, _, rfl, .inl ⟨vs, SqL.of hp', rfl⟩, q M H δ _ _ (a.len ▸ k) Ex.rfl' I .int⟩
abbrev rList (K : PySem.W.Frag) : List V → Hp → VK → Prop := fun xs H Q => ∃ p ys, xs = [.ref p] ∧ (SqL K H p ys ∨ SqT K H p ys) ∧ ∀ l, H l = none → Q (.ref l) (upd H l (.lst ys))
theorem newO {p : Addr} {o : HO} {y : OD} {δ1 : List S} {Q : VK} {M1 H1 : Hp} (I1 : I3 Z B W M1 H1 σ δ1) (hp : H1 p = none) (hy : ODAt Z M1 o y) (f : Ω y δ1) (e : Ex M M1)
    (q : ∀ M' H' δ' p ho y, Ω y δ' → Ex M M' → I3 Z B W M' H' σ δ' → H' p = some ho → ODAt Z M' ho y → M' p = none → B.h p = none → (∀ i, ¬ Own σ δ' i p) → Q (.ref p) H') : Q (.ref p) (upd H1 p o) :=
  have hm := I1.ex.free hp
  q M1 _ δ1 p _ _ f e (I1.other (I1.fresh hp) hm (I1.newOwn hp)) upd_same hy hm (I1.fresh hp) (I1.newOwn hp)
theorem seq_of {v : V} {d : D} {xs : List D} (a : At Z M v d) (h : d = .lst xs ∨ d = .tup xs) (e : Ex M H) : ∃ p vs, v = .ref p ∧ (SqL Z.K H p vs ∨ SqT Z.K H p vs) ∧ AtL Z M vs xs := by
  rcases h with rfl | rfl
  · cases a with | lst h l c => exact ⟨_, _, rfl, .inl (SqL.of (e _ _ h)), l, c⟩
  · cases a with | tup h l c => exact ⟨_, _, rfl, .inr (sqT_mono e h), l, c⟩
theorem xo_list (h : XE Z te δ fun d δ1 => ∃ xs, (d = .lst xs ∨ d = .tup xs) ∧ Ω (.lst xs) δ1) : XO Z (tCB (rList Z.K) (tCons te tNil)) δ Ω := XO.mk fun B W M H σ Q I q =>
  h.run I fun M1 H1 δ1 x a h1 e1 I1 at1 => by
    obtain ⟨xs, hx, f⟩ := h1
    obtain ⟨p, vs, rfl, s, al⟩ := seq_of at1 hx I1.ex
    exact ⟨p, vs, rfl, s, fun l hl => newO (o := .lst vs) (y := .lst xs) I1 hl al f e1 q⟩
abbrev rTuple (K : PySem.W.Frag) : List V → Hp → VK → Prop := fun xs H Q => ∃ p ys, xs = [.ref p] ∧ ((SqL K H p ys ∧ ∀ l, H l = none → Q (.ref l) (upd H l (.tup ys))) ∨ (SqT K H p ys ∧ Q (.ref p) H))
theorem newT {p : Addr} {vs : List V} {xs : List D} {δ1 : List S} {Q : VK} {M1 H1 : Hp} (I1 : I3 Z B W M1 H1 σ δ1) (hp : H1 p = none) (al : AtL Z M1 vs xs) (f : Φ (.tup xs) δ1) (e : Ex M M1)
    (q : ∀ M' H' δ' v d, Φ d δ' → Ex M M' → I3 Z B W M' H' σ δ' → At Z M' v d → Q v H') : Q (.ref p) (upd H1 p (.tup vs)) :=
  have hm := I1.ex.free hp
  q _ _ δ1 _ _ f (e.tr (Ex.new hm)) (I1.grow hp) (.tup (SqT.of upd_same) al.len (al.mono (Ex.new hm)).at')
theorem xe_tuple (h : XE Z te δ fun d δ1 => ∃ xs, (d = .lst xs ∨ d = .tup xs) ∧ Φ (.tup xs) δ1) : XE Z (tCB (rTuple Z.K) (tCons te tNil)) δ Φ := XE.mk fun B W M H σ Q I q =>
  h.run I fun M1 H1 δ1 x a h1 e1 I1 at1 => by
    obtain ⟨xs, hx, f⟩ := h1
    obtain ⟨p, vs, rfl, s, al⟩ := seq_of at1 hx I1.ex
    rcases hx with rfl | rfl
    · cases at1 with | lst h l c => exact ⟨_, _, rfl, .inl ⟨SqL.of (I1.ex _ _ h), fun l' hl => newT I1 hl ⟨l, c⟩ f e1 q⟩⟩
    · cases at1 with | tup h l c => exact ⟨_, _, rfl, .inr ⟨sqT_mono I1.ex h, q M1 H1 δ1 _ _ f e1 I1 (.tup h l c)⟩⟩
theorem xe_all (h : XE Z te δ fun d δ1 => ∃ xs : List Bool, d = .lst (xs.map .bl) ∧ Φ (.bl (xs.all id)) δ1) : XE Z (tCB (rAll Z.K) (tCons te tNil)) δ Φ := XE.mk fun B W M H σ Q I q =>
  h.run I fun M1 H1 δ1 x a h1 e1 I1 at1 => by
    obtain ⟨xs, rfl, f⟩ := h1
    cases at1 with
    | lst h l c =>
      have := AtL.bools (Z := Z) (M := M1) ⟨l, c⟩
      subst this
      exact ⟨_, xs, rfl, SqL.of (I1.ex _ _ h), q M1 H1 δ1 _ _ f e1 I1 .bl⟩
theorem xe_any (h : XE Z te δ fun d δ1 => ∃ xs : List Bool, d = .lst (xs.map .bl) ∧ Φ (.bl (xs.any id)) δ1) : XE Z (tCB (rAny Z.K) (tCons te tNil)) δ Φ := XE.mk fun B W M H σ Q I q =>
  h.run I fun M1 H1 δ1 x a h1 e1 I1 at1 => by
    obtain ⟨xs, rfl, f⟩ := h1
    cases at1 with
    | lst h l c =>
      have := AtL.bools (Z := Z) (M := M1) ⟨l, c⟩
      subst this
      exact ⟨_, xs, rfl, SqL.of (I1.ex _ _ h), q M1 H1 δ1 _ _ f e1 I1 .bl⟩
theorem xe_sum (h : XE Z te δ fun d δ1 => ∃ xs : List Int, d = .lst (xs.map .int) ∧ Φ (.int xs.sum) δ1) : XE Z (tCB (rSum Z.K) (tCons te tNil)) δ Φ := XE.mk fun B W M H σ Q I q =>
  h.run I fun M1 H1 δ1 x a h1 e1 I1 at1 => by
    obtain ⟨xs, rfl, f⟩ := h1
    cases at1 with
    | lst h l c =>
      have := AtL.ints (Z := Z) (M := M1) ⟨l, c⟩
      subst this
      exact ⟨_, xs, rfl, SqL.of (I1.ex _ _ h), q M1 H1 δ1 _ _ f e1 I1 .int⟩
/-! ### slices, + -/
def cut {α : Type} (xs : List α) (lo hi : Option Int) : List α := (xs.drop (HT.sIx xs.length 0 lo)).take (HT.sIx xs.length xs.length hi - HT.sIx xs.length 0 lo)
theorem AtL.cut {vs : List V} {xs : List D} (lo hi : Option Int) (a : AtL Z M vs xs) : AtL Z M (cutV vs lo hi) (G.cut xs lo hi) := by
  unfold cutV G.cut
  rw [a.len]
  exact (a.drop _).take _
def XP (Z : Wd) (to : TO) (δ : List S) (Θ : Option Int → List S → Prop) : Prop :=
  ∀ B W M H σ (Q : Option Int → Hp → Prop), I3 Z B W M H σ δ → (∀ M' H' δ' o, Θ o δ' → Ex M M' → I3 Z B W M' H' σ δ' → Q o H') → to σ H Q
variable {Θ : Option Int → List S → Prop} {tl th : TO}
theorem xp_no (k : Θ none δ) : XP Z tNoPart δ Θ := fun B W M H σ Q I q => q M H δ none k Ex.rfl' I
theorem xp_part (h : XE Z te δ fun d δ1 => ∃ i, d = .int i ∧ Θ (some i) δ1) : XP Z (tPart te) δ Θ := fun B W M H σ Q I q =>
  h.run I fun M1 H1 δ1 x a h1 e1 I1 at1 => by
    obtain ⟨i, rfl, f⟩ := h1
    cases at1
    exact ⟨i, rfl, q M1 H1 δ1 _ f e1 I1⟩
theorem xo_cat (h : XE Z ta δ fun a δ1 => XE Z tb δ1 fun b δ2 => ∃ xs ys, a = .lst xs ∧ b = .lst ys ∧ xs.length + ys.length ≤ 1000000 ∧ Ω (.lst (xs ++ ys)) δ2) : XO Z (tOp rCat ta tb) δ Ω := XO.mk fun B W M H σ Q I q =>
  h.run I fun M1 H1 δ1 x a h1 e1 I1 at1 => XE.run h1 I1 fun M2 H2 δ2 y b h2 e2 I2 at2 => by
    obtain ⟨xs, ys, rfl, rfl, hl, f⟩ := h2
    cases at1.mono e2 with
    | lst k1 l1 c1 => cases at2 with
      | lst k2 l2 c2 => exact ⟨_, _, _, _, rfl, rfl, I2.ex _ _ k1, I2.ex _ _ k2, Nat.le_trans (by rw [l1, l2]; exact hl) (by decide), fun p hp => newO (o := .lst _) (y := .lst _) I2 hp (AtL.app ⟨l1, c1⟩ ⟨l2, c2⟩) f (e1.tr e2) q⟩
/-! ### methods of an own list -/
theorem xe_app {i : Nat} (hv : ∃ xs, δ[i]? = some (.own (.lst xs))) (h : XE Z te δ fun d δ1 => ∃ xs, δ1[i]? = some (.own (.lst xs)) ∧ xs.length < 1000000 ∧ Φ .non (δ1.set i (.own (.lst (xs ++ [d]))))) : XE Z (tBM Z.K "list" rAppend (tVar i) (tCons te tNil)) δ Φ := XE.mk fun B W M H σ Q I q => by
  obtain ⟨x0, hy⟩ := hv
  obtain ⟨o, e, p, ho, rfl, h0, h0', _⟩ := I.sl i _ hy
  obtain ⟨vs0, rfl, _⟩ := h0'.lstI
  refine ⟨_, e, .inl ⟨rfl, vs0, SqL.of h0⟩, h.run I fun M2 H2 δ2 y b h2 e2 I2 at2 => ?_⟩
  obtain ⟨xs, hx, hl, f⟩ := h2
  obtain ⟨o', e', p', ho', rfl, hp', hy', _⟩ := I2.sl i _ hx
  rw [e] at e'; cases e'
  obtain ⟨vs, rfl, a⟩ := hy'.lstI
  exact ⟨_, vs, y, rfl, rfl, hp', Nat.lt_of_lt_of_le (by rw [a.len]; exact hl) (by decide), q M2 _ _ _ _ f e2 (I2.write e hx (ho := .lst _) (y' := .lst _) (AtL.app a (.one at2))) .non⟩
theorem xe_ext {i : Nat} (hv : ∃ xs, δ[i]? = some (.own (.lst xs))) (h : XE Z te δ fun d δ1 => ∃ xs ys, δ1[i]? = some (.own (.lst xs)) ∧ d = .lst ys ∧ xs.length + ys.length ≤ 1000000 ∧ Φ .non (δ1.set i (.own (.lst (xs ++ ys))))) : XE Z (tBM Z.K "list" rExtend (tVar i) (tCons te tNil)) δ Φ := XE.mk fun B W M H σ Q I q => by
  obtain ⟨x0, hy⟩ := hv
  obtain ⟨o, e, p, ho, rfl, h0, h0', _⟩ := I.sl i _ hy
  obtain ⟨vs0, rfl, _⟩ := h0'.lstI
  refine ⟨_, e, .inl ⟨rfl, vs0, SqL.of h0⟩, h.run I fun M2 H2 δ2 y b h2 e2 I2 at2 => ?_⟩
  obtain ⟨xs, ys, hx, rfl, hl, f⟩ := h2
  obtain ⟨o', e', p', ho', rfl, hp', hy', _⟩ := I2.sl i _ hx
  rw [e] at e'; cases e'
  obtain ⟨vs, rfl, a⟩ := hy'.lstI
  cases at2 with
  | lst k2 l2 c2 => exact ⟨_, _, vs, _, rfl, rfl, hp', I2.ex _ _ k2, Nat.le_trans (by rw [a.len, l2]; exact hl) (by decide), q M2 _ _ _ _ f e2 (I2.write e hx (ho := .lst _) (y' := .lst _) (AtL.app a ⟨l2, c2⟩)) .non⟩
theorem xe_pop {i : Nat} (hv : ∃ xs, δ[i]? = some (.own (.lst xs))) (h : XE Z te δ fun d δ1 => ∃ xs k x, δ1[i]? = some (.own (.lst xs)) ∧ d = .int (k : Nat) ∧ k < 1000000 ∧ xs[k]? = some x ∧ Φ x (δ1.set i (.own (.lst (xs.eraseIdx k))))) : XE Z (tBM Z.K "list" rPopAt (tVar i) (tCons te tNil)) δ Φ := XE.mk fun B W M H σ Q I q => by
  obtain ⟨x0, hy⟩ := hv
  obtain ⟨o, e, p, ho, rfl, h0, h0', _⟩ := I.sl i _ hy
  obtain ⟨vs0, rfl, _⟩ := h0'.lstI
  refine ⟨_, e, .inl ⟨rfl, vs0, SqL.of h0⟩, h.run I fun M2 H2 δ2 y b h2 e2 I2 at2 => ?_⟩
  obtain ⟨xs, k, x, hx, rfl, hk, hg, f⟩ := h2
  cases at2
  obtain ⟨o', e', p', ho', rfl, hp', hy', _⟩ := I2.sl i _ hx
  rw [e] at e'; cases e'
  obtain ⟨vs, rfl, a⟩ := hy'.lstI
  obtain ⟨v, hv', av⟩ := a.get hg
  have hlt : k < vs.length := (List.getElem?_eq_some_iff.mp hv').1
  refine ⟨_, vs, (k : Int), k, v, rfl, rfl, hp', by omega, by omega, ?_, hv', q M2 _ _ _ _ f e2 (I2.write e hx (ho := .lst _) (y' := .lst _) (a.erase k)) av⟩
  unfold seqIndex?
  have h1 : ¬ ((k : Int) < 0) := by omega
  simp only [h1, if_false]
  rw [if_pos]
  · simp
  · simp; omega
theorem xe_popL {i : Nat} {xs : List D} {x : D} (hv : δ[i]? = some (.own (.lst (xs ++ [x])))) (k : Φ x (δ.set i (.own (.lst xs)))) : XE Z (tBM0 Z.K "list" rPop (tVar i)) δ Φ := XE.mk fun B W M H σ Q I q => by
  obtain ⟨o, e, p, ho, rfl, h0, h0', _⟩ := I.sl i _ hv
  obtain ⟨vs, rfl, a⟩ := h0'.lstI
  obtain ⟨v, hv', av⟩ := a.get (i := xs.length) (d := x) (by simp)
  have hl : vs.length - 1 = xs.length := by rw [a.len]; simp
  refine ⟨_, e, .inl ⟨rfl, vs, SqL.of h0⟩, _, vs, v, rfl, rfl, h0, by rw [hl]; exact hv', q M _ _ _ _ k Ex.rfl' (I.write e hv (ho := .lst _) (y' := .lst _) ?_) av⟩
  have := a.dropLast
  rwa [List.dropLast_concat] at this
variable {bs : List Nat} {P : Po} {s1 s2 : TS}
theorem xs_drop (h : XE Z te δ fun _ δ' => P.N δ') : XS Z bs (tDrop te) δ P := fun B W M H σ E hb I e =>
  h.run I fun M1 H1 δ1 x a h1 e1 I1 at1 => e.nx _ _ _ _ h1 e1 I1
/-! ### returns -/
theorem xs_ret (h : XE Z te δ fun d δ' => P.R (.d d) δ') : XS Z bs (tRet te) δ P := fun B W M H σ E hb I e =>
  h.run I fun M1 H1 δ1 x a h1 e1 I1 at1 => e.rt _ _ _ _ _ (.d a) h1 e1 I1 at1
theorem xs_retO (h : XO Z te δ fun y δ' => P.R (.own y) δ') : XS Z bs (tRet te) δ P := fun B W M H σ E hb I e =>
  XO.run h I fun M1 H1 δ1 p ho y h1 e1 I1 a b c d g => e.rt _ _ _ _ _ (.own y) h1 e1 I1 ⟨p, ho, rfl, a, b, c, d⟩
/-- an own list that is returned as new -/
theorem xs_retV {i : Nat} {y : OD} (hi : i ∉ bs) (h : δ[i]? = some (.own y)) (k : P.R (.own y) δ) : XS Z bs (tRet (tVar i)) δ P := fun B W M H σ E hb I e => by
  obtain ⟨o, e0, p, ho, rfl, hp, hy, hm⟩ := I.sl i _ h
  refine ⟨_, e0, e.rt M H _ _ _ (.own y) k Ex.rfl' I ⟨p, ho, rfl, hp, hy, hm, ?_⟩⟩
  rcases I.own i p (Own.mk e0 h) with q | q
  · exact absurd q (not_bor hb hi p)
  · exact q
/-- from here on slot i's list is a datum -/
theorem xs_freeze {i : Nat} {xs : List D} (hi : i ∉ bs) (h : δ[i]? = some (.own (.lst xs))) (k : XS Z bs s1 (δ.set i (.d (.lst xs))) P) : XS Z bs s1 δ P := fun B W M H σ E hb I e => by
  obtain ⟨M', ex, J⟩ := I.freeze (not_bor hb hi) h
  exact k B W M' H σ E hb J (e.mono ex)
/-- slot i is forgotten -/
theorem I3.forget {i : Nat} (I : I3 Z B W M H σ δ) (hi : ∀ p, (i, p) ∉ W) : I3 Z B W M H σ (δ.set i .no) := by
  have bad : ∀ j q, Own σ (δ.set i .no) j q → i ≠ j ∧ Own σ δ j q := fun j q o => by
    obtain ⟨r, y, a, b, c⟩ := o
    have e : i ≠ j := fun e => by
      subst e
      rw [List.getElem?_set] at b
      split at b
      · split at b
        · cases b; exact c
        · cases b
      · rename_i z; exact z rfl
    rw [List.getElem?_set_ne e] at b
    exact ⟨e, r, y, a, b, c⟩
  refine ⟨I.ex, I.mg, I.keep, by rw [List.length_set]; exact I.len, fun j s e => ?_, fun j q w => ?_, fun j q o => I.own j q (bad j q o).2, fun j k q a b => I.dis j k q (bad j q a).2 (bad k q b).2⟩
  · by_cases z : i = j
    · subst z
      have hl : i < δ.length := by
        have := (List.getElem?_eq_some_iff.mp e).1; rwa [List.length_set] at this
      rw [List.getElem?_set_self hl] at e; cases e
      exact ⟨σ[i]'(by rw [I.len]; exact hl), by simp [I.len, hl], trivial⟩
    · rw [List.getElem?_set_ne z] at e; exact I.sl j s e
  · have e' : i ≠ j := fun e => hi q (e ▸ w)
    exact (I.bor j q w).same rfl (List.getElem?_set_ne e')
theorem xs_forget {i : Nat} (hi : i ∉ bs) (k : XS Z bs s1 (δ.set i .no) P) : XS Z bs s1 δ P := fun B W M H σ E hb I e => k B W M H σ E hb (I.forget (not_bor hb hi)) e
end
end G
set_option Elab.async false
set_option linter.all false
set_option maxRecDepth 100000
set_option maxHeartbeats 4000000
namespace G
open PySem L2
section
variable {Z : Wd} {M H M' H' : Hp} {B : Bas} {W : List (Nat × Addr)} {σ : St} {δ : List S}
variable {te ta tb tv : TE} {tt t u : TT} {Φ : D → List S → Prop} {Ψ : S → List S → Prop} {Ω : OD → List S → Prop} {Λ : List D → List S → Prop} {ts : TA}
variable {bs : List Nat} {P : Po} {s1 s2 : TS}
/-! ### contracts of defs: over data -/
abbrev FR := List D → (S → Prop) → Prop
abbrev FB := OD → List D → (S → OD → Prop) → Prop
/-- nothing is borrowed -/
def spR (Z : Wd) (F : FR) : Sp := fun vs H Q _ => ∃ M ds Φ, Ex M H ∧ AtL Z M vs ds ∧ F ds Φ ∧
  ∀ M' H' v s, Φ s → Ex M M' → Ex M' H' → Ex H H' → (∀ p o, H p = some o → M p = none → NT o → M' p = none) → RetOk Z ⟨H, M⟩ M' H' v s → Q v H'
/-- the first argument is borrowed: an object that the caller alone holds -/
def spB (Z : Wd) (F : FB) : Sp := fun vs H Q _ => ∃ M p ws ho y ds Φ, vs = .ref p :: ws ∧ H p = some ho ∧ M p = none ∧ ODAt Z M ho y ∧ Ex M H ∧ AtL Z M ws ds ∧ F y ds Φ ∧
  ∀ M' H' v s ho' y', Φ s y' → Ex M M' → Ex M' H' → (∀ a o, a ≠ p → H a = some o → H' a = some o) → (∀ p o, H p = some o → M p = none → NT o → M' p = none) → H' p = some ho' → ODAt Z M' ho' y' → RetOk Z ⟨H, M⟩ M' H' v s → Q v H'
theorem I3.after (I : I3 Z B W M H σ δ) (e1 : Ex M M') (e2 : Ex M' H') (e3 : Ex H H') (e4 : ∀ p o, H p = some o → M p = none → NT o → M' p = none) : I3 Z B W M' H' σ δ := by
  refine ⟨e2, fun a o e n => ?_, fun a o e n => e3 _ _ (I.keep a o e n), I.len, fun i s e => ?_, I.bor, I.own, I.dis⟩
  · cases q : H a with
    | none => rw [I.fresh q] at e; cases e
    | some u => exact fun t => e4 a u q (I.mg a o e n t) (I.nt e t q)
  · obtain ⟨v, c, d⟩ := I.sl i s e
    refine ⟨v, c, ?_⟩
    cases s with
    | no => trivial
    | d x => obtain ⟨u, f, g⟩ := d; exact ⟨u, f, g.mono e1⟩
    | own z =>
      obtain ⟨q, hq, f, g, k, l⟩ := d
      exact ⟨q, hq, f, e3 _ _ g, k.mono e1, e4 _ _ g l (.own k)⟩
    | deal q cs n =>
      obtain ⟨r, f, g, k, l, m, o⟩ := d
      exact ⟨r, f, e3 _ _ g, e3 _ _ k, e4 _ _ g l (fun _ e => nomatch e), e4 _ _ k m (fun _ e => nomatch e), o⟩
/-- behind a call that has changed what slot i holds alone -/
theorem I3.afterS (I : I3 Z B W M H σ δ) {i : Nat} {o : Option V} {s s' : S} (h : σ[i]? = some o) (hi : δ[i]? = some s) (hs : ∀ p a, Hol p s a ↔ Hol p s' a) (e1 : Ex M M') (e2 : Ex M' H') (e3 : ∀ a o, ¬ Own σ δ i a → H a = some o → H' a = some o)
    (e4 : ∀ p o, H p = some o → M p = none → NT o → M' p = none) (hy : SlotOk Z M' H' o s') : I3 Z B W M' H' σ (δ.set i s') := by
  have hl : i < δ.length := (List.getElem?_eq_some_iff.mp hi).1
  refine ⟨e2, fun a o e n => ?_, fun a o e n => ?_, by rw [List.length_set]; exact I.len, fun j t e => ?_, fun j q w => (Own.setS hi hs).mpr (I.bor j q w), fun j q o => I.own j q ((Own.setS hi hs).mp o), fun j k q a b => I.dis j k q ((Own.setS hi hs).mp a) ((Own.setS hi hs).mp b)⟩
  · cases q : H a with
    | none => rw [I.fresh q] at e; cases e
    | some u => exact fun t => e4 a u q (I.mg a o e n t) (I.nt e t q)
  · refine e3 a o (fun z => ?_) (I.keep a o e n)
    rcases I.own i a z with q | q
    · exact n i q
    · rw [e] at q; cases q
  · by_cases z : i = j
    · subst z
      rw [List.getElem?_set_self hl] at e; cases e
      exact ⟨_, h, hy⟩
    · rw [List.getElem?_set_ne z] at e
      obtain ⟨v, c, d⟩ := I.sl j t e
      refine ⟨v, c, ?_⟩
      cases t with
      | no => trivial
      | d x => obtain ⟨u, f, g⟩ := d; exact ⟨u, f, g.mono e1⟩
      | own w =>
        obtain ⟨q, hq, f, g, k, l⟩ := d
        subst f
        exact ⟨q, hq, rfl, e3 _ _ (fun o => z (I.dis i j q o (Own.mk c e))) g, k.mono e1, e4 _ _ g l (.own k)⟩
      | deal q cs n =>
        obtain ⟨r, f, g, k, l, m, o⟩ := d
        subst f
        exact ⟨r, rfl, e3 _ _ (fun o => z (I.dis i j r o ⟨r, _, c, e, .inl rfl⟩)) g, e3 _ _ (fun o => z (I.dis i j q o ⟨r, _, c, e, .inr rfl⟩)) k, e4 _ _ g l (fun _ e => nomatch e), e4 _ _ k m (fun _ e => nomatch e), o⟩
theorem ret_res {v : V} {s : S} {M0 H0 : Hp} {δ0 : List S} (I : I3 Z B W M0 H0 σ δ0) (hs : ∀ i p, Own σ δ i p → Own σ δ0 i p) (r : RetOk Z ⟨H0, M0⟩ M' H' v s) : ResOk Z B M' H' σ δ v s := by
  cases s with
  | no => exact r
  | d x => exact r
  | own y =>
    obtain ⟨p, ho, e, a, b, c, d⟩ := r
    have d' : H0 p = none := d
    exact ⟨p, ho, e, a, b, c, I.fresh d', fun i o => I.newOwn d' i (hs i p o)⟩
  | deal q cs n =>
    obtain ⟨p, e, a, b⟩ := r
    exact ⟨p, e, a, fun x h => ⟨I.fresh (b x h), fun i o => I.newOwn (b x h) i (hs i x o)⟩⟩
/-- a call: nothing borrowed -/
theorem xr_call {F : FR} {dvs : List V} {dds : List D} {E : XK} (hd : ∀ M : Hp, AtL Z M dvs dds) (h : XA Z ts δ fun ds δ1 => F (ds ++ dds) fun s => Ψ s δ1) : XR Z (tCall (spR Z F) dvs E ts) δ Ψ := fun B W M H σ Q I q =>
  h B W M H σ _ I fun M1 H1 δ1 vs ds h1 e1 I1 al => by
    refine ⟨M1, ds ++ dds, _, I1.ex, al.app (hd M1), h1, fun M' H' v s f a1 a2 a3 a4 r => ?_⟩
    exact q M' H' δ1 v s f (e1.tr a1) (I1.after a1 a2 a3 a4) (ret_res I1 (fun _ _ o => o) r)
/-- a new instance: its __init__ borrows it -/
theorem xe_make {F : FB} {dvs : List V} {dds : List D} {E : XK} {C : Addr} {c : Nat} (hC : (Z.cl c).C = C) (hd : ∀ M : Hp, AtL Z M dvs dds)
    (h : XA Z ts δ fun ds δ1 => F (.ins c []) (ds ++ dds) fun s y => s = .d .non ∧ ∃ gs, y = .ins c gs ∧ gs.map (·.1) = (Z.cl c).fs ∧ Φ (.obj c (gs.map (·.2))) δ1) : XE Z (tMake C (spB Z F) dvs E ts) δ Φ := XE.mk fun B W M H σ Q I q =>
  h B W M H σ _ I fun M1 H1 δ1 vs ds h1 e1 I1 al x dx hx hdx hne => by
    subst hC
    have hm := I1.ex.free hx
    have hmd := I1.ex.free hdx
    have ex2 : Ex H1 (upd (upd H1 dx (.own x)) x (.ins (Z.cl c).C dx [])) := fun b o e => by
      rw [upd_ne (ne_of_none e hx), upd_ne (ne_of_none e hdx)]; exact e
    refine ⟨M1, x, vs ++ dvs, _, .ins c [], ds ++ dds, _, rfl, upd_same, hm, ⟨rfl, rfl, .nil⟩, I1.ex.tr ex2, al.app (hd M1), h1, fun M' H' v s ho2 y2 g a1 a2 a3 a4 a5 a6 r => ?_⟩
    obtain ⟨rfl, gs, rfl, hf, f⟩ := g
    have rv : At Z M' v .non := r
    cases rv
    refine ⟨rfl, ?_⟩
    obtain ⟨dx2, fs2, rfl, k1, k2⟩ := a6.insI
    have hm2 : M' x = none := a4 x _ upd_same hm (fun _ e => nomatch e)
    have keep : Ex H1 H' := fun b o e => a3 b o (ne_of_none e hx) (ex2 b o e)
    have I2 : I3 Z B W M' H' σ δ1 := I1.after a1 a2 keep fun p o e n => a4 p o (ex2 p o e) n
    have I3' := I2.hold a5 hm2 (I1.fresh hx) (I1.newOwn hx)
    refine q _ H' δ1 _ _ f (e1.tr (a1.tr (Ex.new hm2))) I3' ?_
    have hz : fs2 = (Z.cl c).fs.zip (fs2.map (·.2)) := by
      rw [← hf, ← k1]
      clear a5 a6 k1 k2 I3' f
      induction fs2 with
      | nil => rfl
      | cons a l ih => simp only [List.map_cons, List.zip_cons_cons]; rw [← ih]
    have hlen : (fs2.map (·.2)).length = (Z.cl c).fs.length := by rw [← hf, ← k1]; simp
    refine .obj (dx := dx2) (vs := fs2.map (·.2)) (by rw [upd_same, ← hz]) hlen k2.len (k2.mono (Ex.new hm2)).at'
/-! ### a def's body over data -/
theorem entR {ts : TS} {N : List Str} {vs : List V} {Q : VK} {n : Nat} {ds : List D} {Φ : S → Prop} (ex : Ex M H) (al : AtL Z M vs ds) (hn : N.length = ds.length + n)
    (q : ∀ M' H' v s, Φ s → Ex M M' → Ex M' H' → Ex H H' → (∀ p o, H p = some o → M p = none → NT o → M' p = none) → RetOk Z ⟨H, M⟩ M' H' v s → Q v H')
    (hx : XS Z [] ts (ds.map .d ++ List.replicate n .no) { N := fun _ => Φ (.d .non), R := fun s _ => Φ s }) : ts { nx := fun _ H' => Q .non H', rt := Q } (L2.start N vs) H := by
  have hlen := al.len
  have noOwn : ∀ i p, ¬ Own (L2.start N vs) (ds.map S.d ++ List.replicate n S.no) i p := fun i p => Own.plain
  have I : I3 Z ⟨H, M⟩ [] M H (L2.start N vs) (ds.map S.d ++ List.replicate n S.no) := by
    refine ⟨ex, fun _ _ _ e _ => e, fun _ _ e _ => e, ?_, fun i s e => ?_, fun i p w => by simp at w, fun i p o => absurd o (noOwn i p), fun i j p o => absurd o (noOwn i p)⟩
    · unfold L2.start; simp; omega
    · by_cases hi : i < ds.length
      · rw [List.getElem?_append_left (by simp [hi]), List.getElem?_map] at e
        cases e1 : ds[i]? with
        | none => rw [e1] at e; cases e
        | some d =>
          rw [e1] at e; cases e
          obtain ⟨v, e2, a⟩ := al.get e1
          refine ⟨some v, ?_, v, rfl, a⟩
          unfold L2.start
          rw [List.getElem?_append_left (by simp; omega), List.getElem?_map, e2]; rfl
      · rw [List.getElem?_append_right (by simp; omega), List.getElem?_replicate] at e
        split at e
        · rename_i h1
          cases e
          refine ⟨none, ?_, trivial⟩
          unfold L2.start
          rw [List.getElem?_append_right (by simp; omega), List.getElem?_replicate, if_pos (by simp at h1 ⊢; omega)]
        · cases e
  have fin : ∀ M' H' σ' δ', I3 Z ⟨H, M⟩ [] M' H' σ' δ' → Ex H H' := fun M' H' σ' δ' J a o e => J.keep a o e fun i hi => by simp at hi
  refine hx ⟨H, M⟩ [] M H _ _ rfl I ⟨fun M' H' σ' δ' p e J => q M' H' .non (.d .non) p e J.ex (fin _ _ _ _ J) J.mg .non, fun M' H' σ' δ' v s p e J r => q M' H' v s p e J.ex (fin _ _ _ _ J) J.mg r, fun _ _ _ _ f => f.elim, fun _ _ _ _ f => f.elim, fun _ _ => trivial⟩
theorem entB {ts : TS} {N : List Str} {ws : List V} {p : Addr} {ho : HO} {y : OD} {Q : VK} {n : Nat} {ds : List D} {Φ : S → OD → Prop} (hp : H p = some ho) (hm : M p = none) (hy : ODAt Z M ho y) (ex : Ex M H) (al : AtL Z M ws ds) (hn : N.length = ds.length + 1 + n)
    (q : ∀ M' H' v s ho' y', Φ s y' → Ex M M' → Ex M' H' → (∀ a o, a ≠ p → H a = some o → H' a = some o) → (∀ p o, H p = some o → M p = none → NT o → M' p = none) → H' p = some ho' → ODAt Z M' ho' y' → RetOk Z ⟨H, M⟩ M' H' v s → Q v H')
    (hx : XS Z [0] ts (.own y :: (ds.map .d ++ List.replicate n .no)) { N := fun δ' => ∃ y', δ'[0]? = some (.own y') ∧ Φ (.d .non) y', R := fun s δ' => ∃ y', δ'[0]? = some (.own y') ∧ Φ s y' }) : ts { nx := fun _ H' => Q .non H', rt := Q } (L2.start N (.ref p :: ws)) H := by
  have hlen := al.len
  have only : ∀ i q, Own (L2.start N (V.ref p :: ws)) (S.own y :: (ds.map S.d ++ List.replicate n S.no)) i q → i = 0 ∧ q = p := fun i q o => by
    obtain ⟨r, y', e0, e, c⟩ := o
    cases i with
    | zero =>
      have : some (some (V.ref p)) = some (some (V.ref r)) := e0
      cases this
      cases e; exact ⟨rfl, c⟩
    | succ i =>
      rw [List.getElem?_cons_succ] at e
      exact (plain_no e _ _ c).elim
  have I : I3 Z ⟨H, M⟩ [(0, p)] M H (L2.start N (V.ref p :: ws)) (S.own y :: (ds.map S.d ++ List.replicate n S.no)) := by
    refine ⟨ex, fun _ _ _ e _ => e, fun _ _ e _ => e, ?_, fun i s e => ?_, fun i q w => ?_, fun i q o => ?_, fun i j q o o' => ?_⟩
    · unfold L2.start; simp; omega
    · cases i with
      | zero => cases e; exact ⟨some (.ref p), rfl, p, ho, rfl, hp, hy, hm⟩
      | succ i =>
        rw [List.getElem?_cons_succ] at e
        have es : (L2.start N (V.ref p :: ws))[i + 1]? = (ws.map some ++ List.replicate n (none : Option V))[i]? := by
          unfold L2.start
          have : N.length - (V.ref p :: ws).length = n := by simp; omega
          rw [this]; rfl
        rw [es]
        by_cases hi : i < ds.length
        · rw [List.getElem?_append_left (by simp [hi]), List.getElem?_map] at e
          cases e1 : ds[i]? with
          | none => rw [e1] at e; cases e
          | some d =>
            rw [e1] at e; cases e
            obtain ⟨v, e2, a⟩ := al.get e1
            refine ⟨some v, ?_, v, rfl, a⟩
            rw [List.getElem?_append_left (by simp; omega), List.getElem?_map, e2]; rfl
        · rw [List.getElem?_append_right (by simp; omega), List.getElem?_replicate] at e
          split at e
          · rename_i h1
            cases e
            refine ⟨none, ?_, trivial⟩
            rw [List.getElem?_append_right (by simp; omega), List.getElem?_replicate, if_pos (by simp at h1 ⊢; omega)]
          · cases e
    · have := List.mem_singleton.mp w
      cases this
      exact Own.mk rfl rfl
    · obtain ⟨rfl, rfl⟩ := only i q o
      exact .inl List.mem_cons_self
    · rw [(only i q o).1, (only j q o').1]
  have fin : ∀ M' H' σ' δ' y', I3 Z ⟨H, M⟩ [(0, p)] M' H' σ' δ' → δ'[0]? = some (.own y') → (∀ a o, a ≠ p → H a = some o → H' a = some o) ∧ ∃ ho', H' p = some ho' ∧ ODAt Z M' ho' y' := fun M' H' σ' δ' y' J e => by
    refine ⟨fun a o hne e => J.keep a o e fun i hi => ?_, ?_⟩
    · have := List.mem_singleton.mp hi
      cases this; exact hne rfl
    · have hO := J.bor 0 p List.mem_cons_self
      obtain ⟨ho', h2, h3, _⟩ := J.ownO hO e
      exact ⟨ho', h2, h3⟩
  refine hx ⟨H, M⟩ [(0, p)] M H _ _ rfl I ⟨fun M' H' σ' δ' f e J => ?_, fun M' H' σ' δ' v s f e J r => ?_, fun _ _ _ _ f => f.elim, fun _ _ _ _ f => f.elim, fun _ _ => trivial⟩
  · obtain ⟨y', hy', f⟩ := f
    obtain ⟨k1, ho', k2, k3⟩ := fin _ _ _ _ _ J hy'
    exact q M' H' .non (.d .non) ho' y' f e J.ex k1 J.mg k2 k3 .non
  · obtain ⟨y', hy', f⟩ := f
    obtain ⟨k1, ho', k2, k3⟩ := fin _ _ _ _ _ J hy'
    exact q M' H' v s ho' y' f e J.ex k1 J.mg k2 k3 r
/-! ### fields -/
structure ClOk (Z : Wd) (c : Nat) : Prop where
  cls : Cls Z.K (Z.cl c).C
  no : ∀ f ∈ (Z.cl c).fs, NoAttr Z.K (Z.cl c).C f
theorem lookup_zip : ∀ {fs : List Str} {vs : List V} {k : Nat} {f : Str} {v : V}, fs.Nodup → fs[k]? = some f → vs[k]? = some v → (fs.zip vs).lookup f = some v
  | [], _, _, _, _, _, h, _ => by simp at h
  | g :: fs, [], _, _, _, _, _, h => by simp at h
  | g :: fs, w :: vs, 0, f, v, _, h, h' => by
    simp at h h'; subst h; subst h'
    rw [List.zip_cons_cons, List.lookup_cons, beq_self_eq_true]
  | g :: fs, w :: vs, k + 1, f, v, n, h, h' => by
    obtain ⟨n1, n2⟩ := List.nodup_cons.mp n
    have hf : f ∈ fs := List.mem_of_getElem? (by simpa using h)
    have hne : (f == g) = false := by
      rw [beq_eq_false_iff_ne]; intro e; exact n1 (e ▸ hf)
    rw [List.zip_cons_cons, List.lookup_cons, hne]
    exact lookup_zip n2 (by simpa using h) (by simpa using h')
/-- o.f of a datum -/
theorem xe_fld {f : Str} (h : XE Z ta δ fun a δ1 => ∃ (c : Nat) (ds : List D) (k : Nat) (d : D), a = .obj c ds ∧ ClOk Z c ∧ (Z.cl c).fs.Nodup ∧ (Z.cl c).fs[k]? = some f ∧ ds[k]? = some d ∧ Φ d δ1) : XE Z (tFld Z.K ta f) δ Φ := XE.mk fun B W M H σ Q I q =>
  h.run I fun M1 H1 δ1 x a h1 e1 I1 at1 => by
    obtain ⟨c, ds, k, d, rfl, ok, nd, hf, hd, g⟩ := h1
    cases at1 with
    | obj k1 l1 l2 k2 =>
      have hk : k < _ := (List.getElem?_eq_some_iff.mp hd).1
      rename_i a dx vs
      have hv : vs[k]? = some (vs[k]'(by rw [l2]; exact hk)) := by simp [l2, hk]
      exact ⟨a, _, dx, _, _, rfl, I1.ex _ _ k1, ok.cls, ok.no f (List.mem_of_getElem? hf), lookup_zip nd hf hv, q M1 H1 δ1 _ d g e1 I1 (k2 k _ d hv hd)⟩
def putD (f : Str) (v : D) : List (Str × D) → List (Str × D)
  | [] => [(f, v)]
  | (g, x) :: r => if g = f then (g, v) :: r else (g, x) :: putD f v r
theorem putD_at {f : Str} {v : V} {d : D} (av : At Z M v d) : ∀ {fs : List (Str × V)} {gs : List (Str × D)}, AtL Z M (fs.map (·.2)) (gs.map (·.2)) → fs.map (·.1) = gs.map (·.1) → (putF f v fs).map (·.1) = (putD f d gs).map (·.1) ∧ AtL Z M ((putF f v fs).map (·.2)) ((putD f d gs).map (·.2))
  | [], [], _, _ => ⟨rfl, .one av⟩
  | [], g :: gs, _, e => by simp at e
  | x :: fs, [], _, e => by simp at e
  | (x1, x2) :: fs, (g1, g2) :: gs, a, e => by
    simp only [List.map_cons, List.cons.injEq] at e
    obtain ⟨rfl, e⟩ := e
    obtain ⟨v', ws, q, a1, a2⟩ := a.inv
    simp only [List.map_cons, List.cons.injEq] at q
    obtain ⟨rfl, rfl⟩ := q
    show ((if x1 = f then (x1, v) :: fs else (x1, x2) :: putF f v fs).map (·.1) = (if x1 = f then (x1, d) :: gs else (x1, g2) :: putD f d gs).map (·.1)) ∧ AtL Z M ((if x1 = f then (x1, v) :: fs else (x1, x2) :: putF f v fs).map (·.2)) ((if x1 = f then (x1, d) :: gs else (x1, g2) :: putD f d gs).map (·.2))
    by_cases c : x1 = f
    · rw [if_pos c, if_pos c]
      exact ⟨by simp [e], .cons av a2⟩
    · rw [if_neg c, if_neg c]
      obtain ⟨i1, i2⟩ := putD_at av a2 e
      exact ⟨by simp [i1], .cons a1 i2⟩
/-- self.f = e of an own instance -/
theorem xs_fldO {i : Nat} {f : Str} {c : Nat} (ok : Cls Z.K (Z.cl c).C) (n : NoAttr Z.K (Z.cl c).C f) (h : XE Z tv δ fun d δ1 => ∃ gs, δ1[i]? = some (.own (.ins c gs)) ∧ gs.length < 1000 ∧ P.N (δ1.set i (.own (.ins c (putD f d gs))))) : XS Z bs (sFld Z.K (tVar i) tv f) δ P := fun B W M H σ E hb I e =>
  h.run I fun M1 H1 δ1 x a h1 e1 I1 at1 => by
    obtain ⟨gs, hi, hl, g⟩ := h1
    obtain ⟨o, e0, p, ho, rfl, h0, h0', _⟩ := I1.sl i _ hi
    obtain ⟨dx, fs, rfl, e2, a⟩ := h0'.insI
    have hlen : fs.length < 1000 := by
      have := congrArg List.length e2; simp at this; omega
    exact ⟨_, e0, p, _, dx, fs, rfl, h0, ok, n, hlen, e.nx _ _ _ _ g e1 (I1.write e0 hi (ho := .ins _ dx _) (y' := .ins c _) ⟨rfl, (putD_at at1 a e2).1, (putD_at at1 a e2).2⟩)⟩
end
end G
set_option Elab.async false
set_option linter.all false
set_option maxRecDepth 100000
set_option maxHeartbeats 4000000
namespace G
open PySem L2
section
variable {Z : Wd} {M H M' H' : Hp} {B : Bas} {W : List (Nat × Addr)} {σ σ' : St} {δ : List S}
variable {te ta tb tv : TE} {tt t u : TT} {Φ : D → List S → Prop} {Ψ : S → List S → Prop} {Ω : OD → List S → Prop} {Λ : List D → List S → Prop} {ts : TA}
variable {bs vs : List Nat} {P : Po} {s1 s2 : TS} {Ξ : List S → Prop}
/-! ### targets -/
theorem xg_name {i : Nat} {x : D} (hv : i ∈ vs) (hi : i ∉ bs) (k : Ξ (δ.set i (.d x))) : XG Z vs bs (gName i) x δ Ξ := fun B W M H σ v Q hb I a q =>
  q M H _ _ k Ex.rfl' (I.put (not_bor hb hi) (hol_d _) (slotD a)) (fun j hj => List.getElem?_set_ne (fun z : i = j => hj (z ▸ hv))) (List.length_set ..)
def XGs (Z : Wd) (vs bs : List Nat) (g : TGs) (xs : List D) (δ : List S) (Φ : List S → Prop) : Prop :=
  ∀ B W M H σ us (Q : St → Hp → Prop), W.map (·.1) = bs → I3 Z B W M H σ δ → AtL Z M us xs →
    (∀ M' H' σ' δ', Φ δ' → Ex M M' → I3 Z B W M' H' σ' δ' → (∀ j, j ∉ vs → σ'[j]? = σ[j]?) → σ'.length = σ.length → Q σ' H') → g us σ H Q
theorem xgs_nil (k : Ξ δ) : XGs Z vs bs gNil [] δ Ξ := fun B W M H σ us Q hb I a q => ⟨a.inv0, q M H σ δ k Ex.rfl' I (fun _ _ => rfl) rfl⟩
theorem xgs_cons {g : TG} {gs : TGs} {x : D} {xs : List D} (h : XG Z vs bs g x δ fun δ1 => XGs Z vs bs gs xs δ1 Ξ) : XGs Z vs bs (gCons g gs) (x :: xs) δ Ξ := fun B W M H σ us Q hb I a q => by
  obtain ⟨v, ws, rfl, a1, a2⟩ := a.inv
  exact ⟨v, ws, rfl, h B W M H σ v _ hb I a1 fun M1 H1 σ1 δ1 h1 e1 I1 k1 l1 => h1 B W M1 H1 σ1 ws _ hb I1 (a2.mono e1) fun M2 H2 σ2 δ2 h2 e2 I2 k2 l2 => q M2 H2 σ2 δ2 h2 (e1.tr e2) I2 (fun j hj => (k2 j hj).trans (k1 j hj)) (l2.trans l1)⟩
theorem xg_tup {gs : TGs} {xs : List D} {n : Nat} (hn : xs.length = n) (h : XGs Z vs bs gs xs δ Ξ) : XG Z vs bs (gTup Z.K n gs) (.tup xs) δ Ξ := fun B W M H σ v Q hb I a q => by
  cases a with
  | tup k l c => exact ⟨_, _, rfl, sqT_mono I.ex k, by rw [l, hn], h B W M H σ _ Q hb I ⟨l, c⟩ q⟩
/-- target = e -/
theorem xs_asg {g : TG} (h : XE Z te δ fun d δ' => XG Z vs bs g d δ' P.N) : XS Z bs (tAsg te g) δ P := fun B W M H σ E hb I e =>
  h.run I fun M1 H1 δ1 x a h1 e1 I1 at1 => h1 B W M1 H1 σ x _ hb I1 at1 fun M2 H2 σ2 δ2 h2 e2 I2 _ _ => e.nx M2 H2 σ2 δ2 h2 (e1.tr e2) I2
/-! ### what a loop walks -/
structure WD (Z : Wd) (M : Hp) (J : It) (xs : List D) : Prop where
  go : ∀ i H, i < xs.length → Ex M H → J.go i H
  stop : ∀ H, Ex M H → J.stop xs.length H
  yld : ∀ i H x H' M2, i < xs.length → Ex M M2 → Ex M2 H → J.yld i H x H' → ∃ d, xs[i]? = some d ∧ ((H' = H ∧ At Z M2 x d) ∨ ∃ T us ds, H T = none ∧ H' = upd H T (.tup us) ∧ x = .ref T ∧ AtL Z M2 us ds ∧ d = .tup ds)
def XI (Z : Wd) (wi : TI) (δ : List S) (Φ : List D → List S → Prop) : Prop :=
  ∀ B W M H σ (R : It → Hp → Prop), I3 Z B W M H σ δ → (∀ M' H' δ' J xs, Φ xs δ' → Ex M M' → I3 Z B W M' H' σ δ' → WD Z M' J xs → R J H') → wi σ H R
def YD (Z : Wd) (M : Hp) (xs : List D) (i : Nat) (H : Hp) (x : V) (H' : Hp) : Prop := ∀ M2, Ex M M2 → Ex M2 H → ∃ d, xs[i]? = some d ∧ ((H' = H ∧ At Z M2 x d) ∨ ∃ T us ds, H T = none ∧ H' = upd H T (.tup us) ∧ x = .ref T ∧ AtL Z M2 us ds ∧ d = .tup ds)
theorem WD.walk {J : It} {xs : List D} (w : WD Z M J xs) : Walk J xs.length (Ex M) (YD Z M xs) :=
  ⟨w.go, w.stop, fun i H x H' hi _ y M2 e1 e2 => w.yld i H x H' M2 hi e1 e2 y⟩
/-- what it gives, as a datum over a state -/
theorem YD.use {xs : List D} {i : Nat} {x : V} {M0 : Hp} (y : YD Z M0 xs i H x H') (e : Ex M0 M) (I : I3 Z B W M H σ δ) : ∃ d M2, xs[i]? = some d ∧ Ex M M2 ∧ I3 Z B W M2 H' σ δ ∧ At Z M2 x d ∧ (∀ p o, H p = some o → H' p = some o) ∧ ∀ p o, H p = some o → M p = none → M2 p = none := by
  obtain ⟨d, hd, c⟩ := y M e I.ex
  rcases c with ⟨rfl, a⟩ | ⟨T, us, ds, hT, rfl, rfl, al, rfl⟩
  · exact ⟨d, M, hd, Ex.rfl', I, a, fun _ _ h => h, fun _ _ _ h => h⟩
  · have hm := I.ex.free hT
    exact ⟨_, upd M T (.tup us), hd, Ex.new hm, I.grow hT, .tup (SqT.of upd_same) al.len (al.mono (Ex.new hm)).at', fun p o h => by rw [upd_ne (ne_of_none h hT)]; exact h, fun p o h n => by rw [upd_ne (ne_of_none h hT)]; exact n⟩
theorem xs_for {g : TG} {tb : TS} {wi : TI} (h : XI Z wi δ fun xs δ0 => ∃ J : Nat → List S → Prop, J 0 δ0 ∧
      (∀ i d δ1, xs[i]? = some d → J i δ1 → XG Z vs bs g d δ1 fun δ2 => XS Z bs tb δ2 { N := J (i + 1), R := P.R, B := P.N, C := J (i + 1), X := P.X }) ∧ ∀ δ1, J xs.length δ1 → P.N δ1) : XS Z bs (tFor wi g tb) δ P := fun B W M H σ E hb I e =>
  h B W M H σ _ I fun M' H' δ' J xs f e1 I1 wd => by
    obtain ⟨Jv, j0, js, jn⟩ := f
    refine for_it wd.walk (fun i σ H => ∃ M'' δ'', Ex M' M'' ∧ I3 Z B W M'' H σ δ'' ∧ Jv i δ'') ⟨M', δ', Ex.rfl', I1, j0⟩ (fun i σ H _ ⟨M'', _, a, b, _⟩ => a.tr b.ex) (fun i x σ1 H1 H2 hi ⟨M'', δ'', a, b, c⟩ y => ?_) (fun σ1 H1 ⟨M'', δ'', a, b, c⟩ => e.nx _ _ _ _ (jn _ c) (e1.tr a) b)
    obtain ⟨d, M2, hd, e2, I2, at2, _⟩ := y.use a b
    refine js i d δ'' hd c B W M2 H2 σ1 x _ hb I2 at2 fun M3 H3 σ3 δ3 h3 e3 I3' _ _ => ?_
    have e4 : Ex M M3 := e1.tr (a.tr (e2.tr e3))
    refine h3 B W M3 H3 σ3 _ hb I3' ⟨fun M4 H4 σ4 δ4 p q I4 => ⟨M4, δ4, a.tr (e2.tr (e3.tr q)), I4, p⟩, fun _ _ _ _ _ _ p q => e.rt _ _ _ _ _ _ p (e4.tr q), fun _ _ _ _ p q => e.nx _ _ _ _ p (e4.tr q), fun M4 H4 σ4 δ4 p q I4 => ⟨M4, δ4, a.tr (e2.tr (e3.tr q)), I4, p⟩, fun _ q => e.xc _ (e4.tr q)⟩
/-! ### comprehensions -/
def wipeS (δ : List S) : List Nat → List S
  | [] => δ
  | v :: vs => (wipeS δ vs).set v .no
theorem wipeS_len : ∀ (vs : List Nat), (wipeS δ vs).length = δ.length
  | [] => rfl
  | v :: vs => by rw [show wipeS δ (v :: vs) = (wipeS δ vs).set v .no from rfl, List.length_set, wipeS_len vs]
theorem wipeS_out {j : Nat} : ∀ {vs : List Nat}, j ∉ vs → (wipeS δ vs)[j]? = δ[j]?
  | [], _ => rfl
  | v :: vs, h => by
    rw [List.mem_cons, not_or] at h
    rw [show wipeS δ (v :: vs) = (wipeS δ vs).set v .no from rfl, List.getElem?_set_ne (fun z => h.1 z.symm), wipeS_out h.2]
theorem wipeS_in {j : Nat} (hj : j < δ.length) : ∀ {vs : List Nat}, j ∈ vs → (wipeS δ vs)[j]? = some .no
  | v :: vs, h => by
    rw [show wipeS δ (v :: vs) = (wipeS δ vs).set v .no from rfl]
    by_cases e : v = j
    · subst e; rw [List.getElem?_set_self (by rw [wipeS_len]; exact hj)]
    · rw [List.getElem?_set_ne e]
      rcases List.mem_cons.mp h with z | z
      · exact absurd z.symm e
      · exact wipeS_in hj z
theorem wipe_out {j : Nat} : ∀ {vs : List Nat}, j ∉ vs → (wipe σ vs)[j]? = σ[j]?
  | [], _ => rfl
  | v :: vs, h => by
    rw [List.mem_cons, not_or] at h
    rw [show wipe σ (v :: vs) = (wipe σ vs).set v none from rfl, List.getElem?_set_ne (fun z => h.1 z.symm), wipe_out h.2]
theorem wipe_in {j : Nat} (hj : j < σ.length) : ∀ {vs : List Nat}, j ∈ vs → (wipe σ vs)[j]? = some none
  | v :: vs, h => by
    rw [show wipe σ (v :: vs) = (wipe σ vs).set v none from rfl]
    by_cases e : v = j
    · subst e; rw [List.getElem?_set_self (by rw [wipe_length]; exact hj)]
    · rw [List.getElem?_set_ne e]
      rcases List.mem_cons.mp h with z | z
      · exact absurd z.symm e
      · exact wipe_in hj z
theorem wipe_eq (h : ∀ j, j ∉ vs → σ'[j]? = σ[j]?) (hl : σ'.length = σ.length) : wipe σ' vs = wipe σ vs := by
  apply List.ext_getElem?
  intro j
  by_cases hj : j ∈ vs
  · by_cases hlt : j < σ.length
    · rw [wipe_in (hl ▸ hlt) hj, wipe_in hlt hj]
    · rw [List.getElem?_eq_none (by rw [wipe_length, hl]; omega), List.getElem?_eq_none (by rw [wipe_length]; omega)]
  · rw [wipe_out hj, wipe_out hj, h j hj]
/-- other values in slots of which nothing is known -/
theorem I3.swap {δ' : List S} (I : I3 Z B W M H σ δ) (h : ∀ j, j ∉ vs → σ'[j]? = σ[j]?) (hl : σ'.length = σ.length) (hd : ∀ j, j ∉ vs → δ'[j]? = δ[j]?) (hn : ∀ j, j ∈ vs → j < δ'.length → δ'[j]? = some .no) (hl' : δ'.length = δ.length) (hw : ∀ i p, i ∈ vs → (i, p) ∉ W) : I3 Z B W M H σ' δ' := by
  have fw : ∀ j p, Own σ' δ' j p → j ∉ vs ∧ Own σ δ j p := fun j p o => by
    have hj : j ∉ vs := fun z => by
      obtain ⟨r, y, a, b, c⟩ := o
      rw [hn j z (List.getElem?_eq_some_iff.mp b).1] at b; cases b; exact c
    exact ⟨hj, o.same (h j hj).symm (hd j hj).symm⟩
  refine ⟨I.ex, I.mg, I.keep, by rw [hl, hl']; exact I.len, fun j s e => ?_, fun j q w => ?_, fun j q o => I.own j q (fw j q o).2, fun j k q a b => I.dis j k q (fw j q a).2 (fw k q b).2⟩
  · by_cases hj : j ∈ vs
    · have hlt := (List.getElem?_eq_some_iff.mp e).1
      rw [hn j hj hlt] at e; cases e
      have : j < σ'.length := by rw [hl, I.len, ← hl']; exact hlt
      exact ⟨σ'[j], by simp [this], trivial⟩
    · rw [hd j hj] at e
      obtain ⟨o, a, b⟩ := I.sl j s e
      exact ⟨o, by rw [h j hj]; exact a, b⟩
  · have hj : j ∉ vs := fun z => hw j q z w
    exact (I.bor j q w).same (h j hj) (hd j hj)
theorem xo_lc {g : TG} {wi : TI} (h : XI Z wi δ fun xs δ0 => (∀ v ∈ vs, δ0[v]? = some .no) ∧ xs.length ≤ 1000000 ∧ ∃ J : Nat → List D → List S → Prop, J 0 [] δ0 ∧
      (∀ i d acc δ1 bs, (∀ v ∈ vs, v ∉ bs) → xs[i]? = some d → J i acc δ1 → XG Z vs bs g d δ1 fun δ2 => XT Z tt δ2 fun b δ3 => if b = true then XE Z te δ3 fun y δ4 => J (i + 1) (acc ++ [y]) (wipeS δ4 vs) else J (i + 1) acc (wipeS δ3 vs)) ∧
      ∀ acc δ1, J xs.length acc δ1 → Ω (.lst acc) δ1) : XO Z (tLc wi g tt te vs) δ Ω := XO.mk fun B W M H σ Q I q =>
  h B W M H σ _ I fun M' H1 δ' J xs f e1 I1 wd A hA => by
    obtain ⟨hno, hxs, Jv, j0, js, jn⟩ := f
    have hAB := I1.fresh hA
    have hAm := I1.ex.free hA
    refine lc_it wd.walk (fun i H => i ≤ xs.length → ∃ M'' δ'' acc av, Ex M' M'' ∧ I3 Z B W M'' H σ δ'' ∧ Jv i acc δ'' ∧ H A = some (.lst av) ∧ AtL Z M'' av acc ∧ M'' A = none ∧ (∀ j, ¬ Own σ δ'' j A) ∧ (∀ v ∈ vs, δ''[v]? = some .no) ∧ acc.length ≤ i)
      (fun _ => ⟨M', δ', [], [], Ex.rfl', I1.other hAB hAm (I1.newOwn hA), j0, upd_same, .nil, hAm, I1.newOwn hA, hno, Nat.le_refl _⟩) (fun i H hi p => ?_) (fun i x Ha Hb hi p y => ?_) (fun H p => ?_)
    · obtain ⟨M'', _, _, _, a, b, _⟩ := p hi
      exact a.tr b.ex
    · obtain ⟨M'', δ'', acc, av, a, Ia, ja, hA1, al, hAm1, hAo, hno1, hacc⟩ := p (Nat.le_of_lt hi)
      obtain ⟨d, M2, hd, e2, I2, at2, k2, m2⟩ := y.use a Ia
      have hA2 := k2 _ _ hA1
      have hAm2 := m2 _ _ hA1 hAm1
      have hvlen : ∀ v ∈ vs, v < δ''.length := fun v hv => (List.getElem?_eq_some_iff.mp (hno1 v hv)).1
      have hWv : ∀ i p, i ∈ vs → (i, p) ∉ W := fun i p hv hw => by
        exact Own.not (hno1 i hv) hol_no (I2.bor i p hw)
      have Iw : I3 Z B W M2 Hb (wipe σ vs) δ'' := I2.swap (fun j hj => wipe_out hj) (wipe_length _ _) (fun _ _ => rfl) (fun j hj _ => hno1 j hj) rfl hWv
      have hbs : ∀ v ∈ vs, v ∉ (owns 0 (wipe σ vs) δ'').map (·.1) := fun v hv hm => by
        obtain ⟨⟨i, p⟩, hmem, rfl⟩ := List.mem_map.mp hm
        exact Own.not (hno1 _ hv) hol_no (mem_owns.mp hmem)
      have ownEq : ∀ i p, (i, p) ∈ owns 0 (wipe σ vs) δ'' ↔ Own σ δ'' i p := fun i p => by
        rw [mem_owns]
        constructor
        · intro o
          have hi' : i ∉ vs := fun hv => Own.not (hno1 i hv) hol_no o
          exact o.same (wipe_out hi').symm rfl
        · intro o
          have hi' : i ∉ vs := fun hv => Own.not (hno1 i hv) hol_no o
          exact o.same (wipe_out hi') rfl
      have fin : ∀ M4 H4 σ4 δ4, Ex M2 M4 → (∀ j, j ∉ vs → σ4[j]? = (wipe σ vs)[j]?) → σ4.length = (wipe σ vs).length → I3 Z ⟨Hb, M2⟩ (owns 0 (wipe σ vs) δ'') M4 H4 σ4 δ4 →
          I3 Z B W M4 H4 σ (wipeS δ4 vs) ∧ H4 A = some (.lst av) ∧ M4 A = none ∧ (∀ j, ¬ Own σ (wipeS δ4 vs) j A) ∧ ∀ v ∈ vs, (wipeS δ4 vs)[v]? = some .no := fun M4 H4 σ4 δ4 e4 k4 l4 J4 => by
        have hl4 : δ4.length = δ''.length := by rw [← J4.len, l4, wipe_length, Ia.len]
        have J5 : I3 Z ⟨Hb, M2⟩ (owns 0 (wipe σ vs) δ'') M4 H4 σ (wipeS δ4 vs) := J4.swap (vs := vs) (fun j hj => by rw [k4 j hj, wipe_out hj]) (by rw [l4, wipe_length]) (fun j hj => wipeS_out hj) (fun j hj hlt => wipeS_in (by rw [wipeS_len] at hlt; exact hlt) hj) (wipeS_len _) fun i p hv hw => hbs i hv (List.mem_map_of_mem (f := (·.1)) hw)
        obtain ⟨z1, z2, z3⟩ := J5.stays (a := A) hA2 hAm2 (fun i hi => hAo i ((ownEq i A).mp hi)) (fun _ e => nomatch e)
        exact ⟨I2.back ownEq J5, z1, z3, z2, fun v hv => wipeS_in (by rw [hl4]; exact hvlen v hv) hv⟩
      refine js i d acc δ'' _ hbs hd ja _ _ M2 Hb (wipe σ vs) x _ rfl Iw.rebase at2 fun M3 H3 σ3 δ3 h3 e3 J3 k3 l3 => ⟨(wipe_eq k3 l3).trans (wipe_eq (fun j hj => wipe_out hj) (wipe_length _ _)), ?_⟩
      refine h3 _ _ M3 H3 σ3 _ J3 fun M4 H4 δ4 b h4 e4 J4 => ?_
      cases b with
      | true =>
        rw [if_pos rfl] at h4 ⊢
        refine XE.run h4 J4 fun M5 H5 δ5 y' d' h5 e5 J5 at5 => ?_
        obtain ⟨z1, z2, z3, z4, z5⟩ := fin M5 H5 σ3 δ5 (e3.tr (e4.tr e5)) k3 l3 J5
        have hlen : av.length < sizeLine := Nat.lt_of_lt_of_le (by have := al.len; omega : av.length < 1000001) (by decide)
        refine ⟨av, z2, hlen, fun _ => ⟨M5, _, _, _, a.tr (e2.tr (e3.tr (e4.tr e5))), z1.other hAB z3 z4, h5, upd_same, AtL.app (al.mono (e2.tr (e3.tr (e4.tr e5)))) (.one at5), z3, z4, z5, by rw [List.length_append, List.length_singleton]; omega⟩⟩
      | false =>
        rw [if_neg Bool.false_ne_true] at h4 ⊢
        obtain ⟨z1, z2, z3, z4, z5⟩ := fin M4 H4 σ3 δ4 (e3.tr e4) k3 l3 J4
        exact fun _ => ⟨M4, _, _, _, a.tr (e2.tr (e3.tr e4)), z1, h4, z2, al.mono (e2.tr (e3.tr e4)), z3, z4, z5, Nat.le_succ_of_le hacc⟩
    · obtain ⟨M'', δ'', acc, av, a, Ia, ja, hA1, al, hAm1, hAo, hno1, _⟩ := p (Nat.le_refl _)
      exact q M'' H δ'' A _ _ (jn _ _ ja) (e1.tr a) Ia hA1 al hAm1 hAB hAo
/-! ### while -/
theorem xs_while {c : TT} {tb : TS} (J : Nat → List S → Prop) (h0 : ∃ m, J m δ) (hs : ∀ m δ1, J m δ1 → XT Z c δ1 fun b δ2 => if b = true then XS Z bs tb δ2 { N := fun δ3 => ∃ m', m' < m ∧ J m' δ3, R := P.R, B := P.N, C := fun δ3 => ∃ m', m' < m ∧ J m' δ3, X := P.X } else P.N δ2) : XS Z bs (tWhile c tb) δ P := fun B W M H σ E hb I e => by
  obtain ⟨m, hm⟩ := h0
  refine ⟨fun m σ H => ∃ M' δ', Ex M M' ∧ I3 Z B W M' H σ δ' ∧ J m δ', ⟨m, M, δ, Ex.rfl', I, hm⟩, ?_⟩
  rintro m σ H ⟨M', δ', a, I', hj⟩
  refine hs m δ' hj B W M' H σ _ I' fun M1 H1 δ1 b h1 e1 I1 => ?_
  cases b with
  | true =>
    rw [if_pos rfl] at h1 ⊢
    refine ⟨fun σ H => ∃ M' δ', Ex M M' ∧ I3 Z B W M' H σ δ' ∧ ∃ m', m' < m ∧ J m' δ', fun σ' H' ⟨M2, δ2, x, y, m', l, z⟩ => ⟨m', l, M2, δ2, x, y, z⟩, ?_⟩
    have e2 : Ex M M1 := a.tr e1
    exact h1 B W M1 H1 σ _ hb I1 ⟨fun M4 H4 σ4 δ4 p q I4 => ⟨M4, δ4, e2.tr q, I4, p⟩, fun _ _ _ _ _ _ p q => e.rt _ _ _ _ _ _ p (e2.tr q), fun _ _ _ _ p q => e.nx _ _ _ _ p (e2.tr q), fun M4 H4 σ4 δ4 p q I4 => ⟨M4, δ4, e2.tr q, I4, p⟩, fun _ q => e.xc _ (e2.tr q)⟩
  | false =>
    rw [if_neg Bool.false_ne_true] at h1 ⊢
    exact e.nx _ _ _ _ h1 (a.tr e1) I1
/-! ### sources -/
theorem wd_list {a : Addr} {us : List V} {xs : List D} (h : SqL Z.K M a us) (al : AtL Z M us xs) : WD Z M (Itl Z.K a) xs :=
  ⟨fun i H hi e => ⟨us, us[i]'(by rw [al.len]; exact hi), sqL_mono e h, by simp [al.len, hi]⟩, fun H e => ⟨us, sqL_mono e h, by rw [al.len]; exact Nat.le_refl _⟩, fun i H x H' M2 hi e1 e2 y => by
    have hx := y.2 us (sqL_mono (e1.tr e2) h)
    obtain ⟨d, hd, a⟩ := al.getV hx
    exact ⟨d, hd, .inl ⟨y.1, a.mono e1⟩⟩⟩
theorem wd_tup {a : Addr} {us : List V} {xs : List D} (h : SqT Z.K M a us) (al : AtL Z M us xs) : WD Z M (Itt Z.K a) xs :=
  ⟨fun i H hi e => ⟨us, us[i]'(by rw [al.len]; exact hi), sqT_mono e h, by simp [al.len, hi]⟩, fun H e => ⟨us, sqT_mono e h, by rw [al.len]; exact Nat.le_refl _⟩, fun i H x H' M2 hi e1 e2 y => by
    have hx := y.2 us (sqT_mono (e1.tr e2) h)
    obtain ⟨d, hd, a⟩ := al.getV hx
    exact ⟨d, hd, .inl ⟨y.1, a.mono e1⟩⟩⟩
theorem xi_list (h : XE Z te δ fun d δ1 => ∃ xs, (d = .lst xs ∨ ∃ ns, d = .scr ns ∧ xs = ns.map .int) ∧ Λ xs δ1) : XI Z (iList Z.K te) δ Λ := fun B W M H σ R I q =>
  h.run I fun M1 H1 δ1 x a h1 e1 I1 at1 => by
    obtain ⟨xs, hx, f⟩ := h1
    rcases hx with rfl | ⟨ns, rfl, rfl⟩
    · cases at1 with
      | lst k l c => exact ⟨_, rfl, ⟨_, SqL.of (I1.ex _ _ k)⟩, q M1 H1 δ1 _ _ f e1 I1 (wd_list (SqL.of k) ⟨l, c⟩)⟩
    · cases at1 with
      | scr k => exact ⟨_, rfl, ⟨_, sqL_mono I1.ex k⟩, q M1 H1 δ1 _ _ f e1 I1 (wd_list k (AtL.ofInts ns))⟩
theorem xi_tup (h : XE Z te δ fun d δ1 => ∃ xs, d = .tup xs ∧ Λ xs δ1) : XI Z (iTup Z.K te) δ Λ := fun B W M H σ R I q =>
  h.run I fun M1 H1 δ1 x a h1 e1 I1 at1 => by
    obtain ⟨xs, rfl, f⟩ := h1
    cases at1 with
    | tup k l c => exact ⟨_, rfl, ⟨_, sqT_mono I1.ex k⟩, q M1 H1 δ1 _ _ f e1 I1 (wd_tup k ⟨l, c⟩)⟩
def rng (lo : Int) (n : Nat) : List D := (List.range n).map fun (i : Nat) => D.int (lo + (i : Int))
theorem rng_len {lo : Int} {n : Nat} : (rng lo n).length = n := by simp [rng]
theorem rng_at {lo : Int} {n i : Nat} {d : D} (h : (rng lo n)[i]? = some d) : i < n ∧ d = .int (lo + i) := by
  have hi : i < n := by have := (List.getElem?_eq_some_iff.mp h).1; rwa [rng_len] at this
  refine ⟨hi, ?_⟩
  simp [rng, hi] at h
  exact h.symm
theorem wd_rng {lo : Int} {n : Nat} : WD Z M (Itr lo n) (rng lo n) :=
  ⟨fun i H hi _ => by rw [rng_len] at hi; exact hi, fun H _ => by rw [rng_len]; exact Nat.le_refl n, fun i H x H' M2 hi _ _ y => by
    rw [rng_len] at hi
    refine ⟨.int (lo + i), by simp [rng, hi], .inl ⟨y.1, ?_⟩⟩
    rw [y.2]; exact .int⟩
theorem xi_rng1 (h : XE Z te δ fun d δ1 => ∃ j : Int, d = .int j ∧ -(2 ^ 62) ≤ j ∧ j < 2 ^ 62 ∧ Λ (rng 0 j.toNat) δ1) : XI Z (iRng1 (tCons te tNil)) δ Λ := fun B W M H σ R I q =>
  h.run I fun M1 H1 δ1 x a h1 e1 I1 at1 => by
    obtain ⟨j, rfl, b1, b2, f⟩ := h1
    cases at1
    exact ⟨j, rfl, b1, b2, q M1 H1 δ1 _ _ f e1 I1 wd_rng⟩
theorem xi_rng2 (h : XE Z ta δ fun d δ1 => XE Z tb δ1 fun b δ2 => ∃ i j : Int, d = .int i ∧ b = .int j ∧ (-(2 ^ 62) ≤ i ∧ i < 2 ^ 62 ∧ -(2 ^ 62) ≤ j ∧ j < 2 ^ 62) ∧ Λ (rng i (j - i).toNat) δ2) : XI Z (iRng2 (tCons ta (tCons tb tNil))) δ Λ := fun B W M H σ R I q =>
  h.run I fun M1 H1 δ1 x a h1 e1 I1 at1 => XE.run h1 I1 fun M2 H2 δ2 y b h2 e2 I2 at2 => by
    obtain ⟨i, j, rfl, rfl, b1, f⟩ := h2
    cases at1; cases at2
    exact ⟨i, j, rfl, b1, q M2 H2 δ2 _ _ f (e1.tr e2) I2 wd_rng⟩
def enumD (xs : List D) : List D := xs.zipIdx.map fun (x, i) => D.tup [.int (i : Nat), x]
theorem enumD_len {xs : List D} : (enumD xs).length = xs.length := by simp [enumD]
theorem enumD_at {xs : List D} {i : Nat} {d : D} (h : (enumD xs)[i]? = some d) : ∃ x, xs[i]? = some x ∧ d = .tup [.int (i : Nat), x] := by
  simp only [enumD, List.getElem?_map, List.getElem?_zipIdx] at h
  cases e : xs[i]? with
  | none => rw [e] at h; simp at h
  | some x => rw [e] at h; simp at h; exact ⟨x, rfl, h.symm⟩
theorem xi_enum (h : XE Z te δ fun d δ1 => ∃ xs, d = .lst xs ∧ Λ (enumD xs) δ1) : XI Z (iEnum Z.K (tCons te tNil)) δ Λ := fun B W M H σ R I q =>
  h.run I fun M1 H1 δ1 x a h1 e1 I1 at1 => by
    obtain ⟨xs, rfl, f⟩ := h1
    cases at1 with
    | lst k l c =>
      rename_i p us
      refine ⟨p, us, rfl, SqL.of (I1.ex _ _ k), q M1 H1 δ1 _ _ f e1 I1 ⟨fun i H hi e => ?_, fun H e => ?_, fun i H x H' M2 hi ea eb y => ?_⟩⟩
      · rw [enumD_len] at hi
        exact ⟨us, us[i]'(by rw [l]; exact hi), SqL.of (e _ _ k), by simp [l, hi]⟩
      · exact ⟨us, SqL.of (e _ _ k), by rw [enumD_len, l]; exact Nat.le_refl _⟩
      · obtain ⟨T, z, h1, h2, h3, h4⟩ := y
        have hz := h4 us (SqL.of ((ea.tr eb) _ _ k))
        obtain ⟨d, hd, ad⟩ := AtL.getV (Z := Z) (M := M1) ⟨l, c⟩ hz
        refine ⟨_, ?_, .inr ⟨T, _, [.int (i : Nat), d], h2, h3, h1, .cons .int (.one (ad.mono ea)), rfl⟩⟩
        simp only [enumD, List.getElem?_map, List.getElem?_zipIdx, hd]; simp
theorem xi_str (h : XE Z te δ fun d δ1 => ∃ s, d = .str s ∧ Λ (s.cps.toList.map fun c => D.str ⟨#[c]⟩) δ1) : XI Z (iStr te) δ Λ := fun B W M H σ R I q =>
  h.run I fun M1 H1 δ1 x a h1 e1 I1 at1 => by
    obtain ⟨s, rfl, f⟩ := h1
    cases at1
    refine ⟨s, rfl, q M1 H1 δ1 _ _ f e1 I1 ⟨fun i H hi _ => ?_, fun H _ => ?_, fun i H x H' M2 hi _ _ y => ?_⟩⟩
    · simpa using (walk_str (z := s)).goes i H (by simpa using hi) trivial
    · simpa using (walk_str (z := s)).stops H trivial
    · obtain ⟨e, c, hc, rfl⟩ := (walk_str (z := s)).yields i H x H' (by simpa using hi) trivial y
      refine ⟨.str ⟨#[c]⟩, ?_, .inl ⟨e, .str⟩⟩
      rw [List.getElem?_map, Array.getElem?_toList, hc]; rfl
end
end G
set_option Elab.async false
set_option linter.all false
set_option maxRecDepth 100000
set_option maxHeartbeats 4000000
/-! sets of texts made of a list, and sorted -/
namespace GS
open PySem PySem.Spec PyProof.Rows L2
open PySem.Froz (SD sObj tailTx addTx TxOk)
/-- the set's table can be walked -/
def Led (w : World) (D : SD) : Prop := Ris D.2.2.place.toList ∧ (w.params.followText "set-order" = true ∨ D.2.2.led = true)
theorem led_tail {w : World} {n : Nat} {xs : Array (Int × Value)} {tb : SetTable} {b : Bool} (r : Ris tb.place.toList) (l : w.params.followText "set-order" = true ∨ tb.led = true) : Led w (tailTx n xs tb b) := by
  unfold tailTx
  split
  · exact ⟨relayAll_ris tb xs _, l.imp id fun z => (relayAll_led tb xs _).trans z⟩
  · exact ⟨r, l⟩
theorem led_add {w : World} {D : SD} {n : Int} {v : Value} (L : Led w D) : Led w (addTx n v D) := by
  have r1 := layNew_ris D.2.2 D.1 n v L.1
  have l1 := L.2.imp id fun z => (layNew_led D.2.2 D.1 n v).trans z
  unfold addTx
  apply led_tail
  · split <;> exact r1
  · split <;> exact l1
section
variable {P : Program} {w : World} {A : Around} {E : Value → Shared → Prop} {s : Shared}
theorem found_x {a : Addr} {D : SD} {l : List Str} {k : Str} {u : Tok} {Q : Bool → Shared → Prop} (ho : s.heap.get? a = some (sObj "set" D)) (F : TxOk P w D l) (hk : k ∈ l) (hb : l.length < scanBound) (h : Q false s) :
    wpAny (model P w) A (setAddHashed a (.str k u) (hashStr w k)) Q E s := by
  obtain ⟨xs, n, tb⟩ := D
  have kk : (strKind P w).is k (.str k u) = true := Froz.is_str k u
  have b0 : xs.size < scanBound := by have : xs.size = l.length := F.sz; omega
  obtain ⟨e, he, hz⟩ := (F.mem k).mp hk
  have some_ : ∃ j, List.findIdx? (fun e => (strKind P w).is k e.2) xs.toList = some j := by
    cases q : List.findIdx? (fun e => (strKind P w).is k e.2) xs.toList with
    | some j => exact ⟨j, rfl⟩
    | none => have := List.findIdx?_eq_none_iff.mp q e he; rw [hz] at this; cases this
  obtain ⟨j, hj⟩ := some_
  have el : ElemsOf (strKind P w) xs.toList := F.el
  unfold setAddHashed setAddHashedIn
  refine wpAny_holding (wpAny_bind (wpAny_setState_of ho rfl F.fit ?_))
  dsimp only
  rw [byScan_of rfl b0 el]
  simp only [↓reduceIte]
  unfold setAddByScan
  refine wpAny_bind (wpAny_bind (wpAny_rule (wpAny_bind (wpAny_setScan_of (knd := strKind P w) (k := k) kk ho rfl F.fit el ?_))))
  rw [hj]
  exact wpAny_pure (wpAny_pure h)
/-- the set at a holds just the texts l, each once -/
def Holds (P : Program) (w : World) (h : Heap) (a : Addr) (l : List Str) : Prop := ∃ D, h.get? a = some (sObj "set" D) ∧ TxOk P w D l ∧ Led w D ∧ l.Nodup
theorem Holds.stay {h h' : Heap} {a : Addr} {l : List Str} (x : Holds P w h a l) (k : ∀ o, h.get? a = some o → h'.get? a = some o) : Holds P w h' a l := by
  obtain ⟨D, e, r⟩ := x
  exact ⟨D, k _ e, r⟩
def Upto (xs l : List Str) (i : Nat) : Prop := l.length ≤ i ∧ ∀ x, x ∈ l ↔ x ∈ xs.take i
theorem take_get {α : Type} {l : List α} {i : Nat} {x : α} (h : l[i]? = some x) : l.take (i + 1) = l.take i ++ [x] := by
  have hi := (List.getElem?_eq_some_iff.mp h)
  obtain ⟨hi, rfl⟩ := hi
  exact (List.take_append_getElem hi).symm
/-- one text more -/
theorem add_one {a : Addr} {l xs : List Str} {i : Nat} {k : Str} {u : Tok} {Q : Bool → Shared → Prop} (H : Holds P w s.heap a l) (U : Upto xs l i) (hx : xs[i]? = some k) (hb : i + 1 < scanBound)
    (h : ∀ b h' l', (∀ c o, c ≠ a → s.heap.get? c = some o → h'.get? c = some o) → Holds P w h' a l' → Upto xs l' (i + 1) → Q b { s with heap := h' }) : wpAny (model P w) A (setAddHashed a (.str k u) (hashStr w k)) Q E s := by
  obtain ⟨D, ho, F, L, nd⟩ := H
  obtain ⟨U1, U2⟩ := U
  have tk := take_get hx
  by_cases hk : k ∈ l
  · refine found_x ho F hk (by omega) (h false s.heap l (fun _ _ _ e => e) ⟨D, ho, F, L, nd⟩ ⟨by omega, fun x => ?_⟩)
    rw [tk, List.mem_append, List.mem_singleton, ← U2]
    exact ⟨.inl, fun z => z.elim id fun e => e ▸ hk⟩
  · refine Froz.add_x ho F hk (by omega) (h true _ (k :: l) (fun c o hc e => (Heap.get?_update_other _ _ (Ne.symm hc)).trans e) ⟨_, Froz.get_upd _ ho rfl, Froz.add_ok u F, led_add L, List.nodup_cons.mpr ⟨hk, nd⟩⟩ ⟨by rw [List.length_cons]; omega, fun x => ?_⟩)
    rw [tk, List.mem_append, List.mem_singleton, ← U2, List.mem_cons]
    exact ⟨fun z => z.elim .inr .inl, fun z => z.elim .inr .inl⟩
end
section
variable {P : Program} {w : World} {A : Around} {R : Result → Shared → Prop} {I : Addr} {fp wr : List Addr} {g : Array GenState → Array GenState → Prop} {n : Nat} {Pv : Nat → Value → Prop} {St : Nat → Shared → Prop}
theorem update_loop (K : WalksS P w A.in1 I fp wr g n Pv St) (a : Addr) (ha : a ∉ fp) (xs : List Str) (hn : xs.length = n) (hb : n + 1 < scanBound) (hv : ∀ i v, Pv i v → ∃ x t, xs[i]? = some x ∧ v = .str x t) :
    ∀ (m i : Nat) (s : Shared), n - i = m → i ≤ n → St i s → (∃ l, Holds P w s.heap a l ∧ Upto xs l i) →
      (∀ s' l, Moved (a :: wr) g s s' → Holds P w s'.heap a l → Upto xs l n → R (.ok (.ret .none)) s') → codeAny (model P w) A (.builtin "set.update.loop" ⟨[.ref a, .ref I], []⟩) R s
  | 0, i, s, hm, hi, st, ⟨l, Hl, U⟩, fin => by
    obtain rfl : i = n := by omega
    refine codeAny_builtin PyProof.Rows.F.entry_set_update_loop ?_
    rw [Around.under_plainId PyProof.Rows.F.plain_set_update_loop]
    refine wpAny_bind (K.done s (fun r s1 => wpAny (model P w) A.in1 _ _ _ s1) _ st fun s1 mv => ?_)
    have aw : a ∉ wr := fun z => ha (K.sub _ z)
    exact wpAny_pure (fin s1 l (mv.mono fun b z => List.mem_cons_of_mem _ z) (Hl.stay fun o e => mv.heap a o aw e) U)
  | m + 1, i, s, hm, hi, st, ⟨l, Hl, U⟩, fin => by
    have lt : i < n := by omega
    have aw : a ∉ wr := fun z => ha (K.sub _ z)
    have cons : ∀ b ∈ wr, b ∈ a :: wr := fun b z => List.mem_cons_of_mem _ z
    refine codeAny_builtin PyProof.Rows.F.entry_set_update_loop ?_
    rw [Around.under_plainId PyProof.Rows.F.plain_set_update_loop]
    refine wpAny_bind (K.item i s (fun r s1 => wpAny (model P w) A.in1 _ _ _ s1) _ lt st fun v s1 pv st1 mv => ?_)
    obtain ⟨x, t, hx, rfl⟩ := hv i v pv
    have H1 : Holds P w s1.heap a l := Hl.stay fun o e => mv.heap a o aw e
    show wpAny _ A.in1 (holding [Value.str x t] (setAdd a (.str x t)) >>= _) _ _ s1
    refine wpAny_bind (wpAny_holding ?_)
    unfold setAdd
    refine wpAny_holding (wpAny_bind ((PySem.strKind P w).pyHash (k := x) (strKind_is _ _ _ _) ?_))
    refine add_one (s := { s1 with toks := s1.toks + 1 }) H1 U hx (by omega) fun b h2 l2 k2 H2 U2 => ?_
    refine wpAny_pure ⟨plainId_quiet PyProof.Rows.F.plain_set_update_loop _, update_loop K a ha xs hn hb hv m (i + 1) _ (by omega) lt (K.frame _ s1 _ _ st1 (Nat.le_succ _) fun b hb o e => k2 b o (fun z => ha (z ▸ hb)) e) ⟨l2, H2, U2⟩ fun s3 l3 mv3 H3 U3 => ?_⟩
    exact fin s3 l3 (Moved.trans K.gtrans ((mv.mono cons).then_heap (Nat.le_succ _) fun b o hb e => k2 b o (fun z => hb (by rw [z]; exact List.mem_cons_self)) e) mv3) H3 U3
end
end GS
set_option Elab.async false
set_option linter.all false
set_option maxRecDepth 100000
set_option maxHeartbeats 8000000
namespace GS
open PySem PySem.Spec PyProof.Rows L2
open PySem.Froz (SD sObj tailTx addTx TxOk)
/-- a set as set() makes it -/
def new0 (w : World) : Obj := { cls := .type "set", dict := none, data := .set #[] 0 (.fresh 0 0 (!w.params.followText "set-order")) }
section
variable {P : Program} {w : World} {A : Around} {E : Value → Shared → Prop} {s : Shared}
theorem holds_new {h : Heap} {a : Addr} (e : h.get? a = some (new0 w)) : Holds P w h a [] := by
  refine ⟨(#[], 0, .fresh 0 0 (!w.params.followText "set-order")), e, Froz.TxOk.nil rfl, ⟨List.Pairwise.nil, ?_⟩, List.nodup_nil⟩
  show _ ∨ (!w.params.followText "set-order") = true
  cases w.params.followText "set-order" <;> simp
theorem strs_get : ∀ {us : List Value} {xs : List Str}, StrsAre us xs → ∀ (i : Nat) v, us[i]? = some v → ∃ x t, xs[i]? = some x ∧ v = Value.str x t
  | _, _, .nil, i, v, h => by simp at h
  | _, _, .cons n t r, 0, v, h => ⟨n, t, rfl, by simpa using h.symm⟩
  | _, _, .cons n t r, i + 1, v, h => by simpa using strs_get r i v (by simpa using h)
/-- set(xs), xs a list of texts -/
theorem call_set {l : Addr} {us : Array Value} {xs : List Str} {Q : Value → Shared → Prop} (hh : A.handled = none) (hl : s.heap.IsList l us) (hx : StrsAre us.toList xs) (hb : us.size + 1 < scanBound)
    (q : ∀ h' tk ys, (∀ b o, b < s.heap.objs.size → s.heap.get? b = some o → h'.get? b = some o) → Holds P w h' s.heap.objs.size ys → (∀ x, x ∈ ys ↔ x ∈ xs) → ys.length ≤ xs.length → Q (.ref s.heap.objs.size) { s with heap := h', toks := tk }) :
    wpAny (model P w) A (call (.type "set") [.ref l]) Q E s := by
  have hsz : xs.length = us.size := by
    have : us.toList.length = xs.length := by
      clear q hb hl
      generalize us.toList = z at hx
      induction hx with
      | nil => rfl
      | cons _ _ _ ih => simp [ih]
    rw [← this, Array.length_toList]
  obtain ⟨c, tl, hmro⟩ := PySem.F.called_set.mro
  have made := PySem.F.called_set.made
  have sub := PySem.F.called_set.sub
  have nt := PySem.F.called_set.notType
  have cc := PySem.F.called_set.canCreate
  have tc := PySem.F.typeCall_set_1 (.ref l)
  refine wpAny_call (codeAny_of_tree (M := model P w) ?_)
  refine wpAny_pure (A := A.in1) ⟨Code.quiet_builtin _ (by decide +kernel), codeAny_builtin PySem.F.entry_type_call ?_⟩
  rw [Around.under_plain (weight_type_call_type "set" [.ref l] []) rfl]
  repeat (any_goals (first | assumption | wp_step))
  refine codeAny_mono (code_set_led1 (.ref l) (E := E) (Q₁ := fun v t => v = .ref s.heap.objs.size ∧ t = { s with heap := s.heap.push (new0 w) }) ⟨rfl, rfl⟩) fun r t hr => ?_
  match r, hr with
  | .error e, hr => exact hr
  | .ok (.ret v), hr =>
    obtain ⟨rfl, rfl⟩ := hr
    have h0 : (s.heap.push (new0 w)).get? s.heap.objs.size = some (new0 w) := Heap.get?_push_size _ rfl
    have ty : Shared.TypeIs { s with heap := s.heap.push (new0 w) } (.ref s.heap.objs.size) "set" := ⟨_, h0, rfl⟩
    have il := PySem.F.called_set.init.lookup
    have ib := PySem.F.called_set.init.bind (.ref s.heap.objs.size)
    repeat (any_goals (first | assumption | wp_step))
    refine codeAny_mono (codeAny_call_builtin (R := wants (fun r t => r = .none ∧ ∃ h' tk ys, t = { s with heap := h', toks := tk } ∧ (∀ b o, b < s.heap.objs.size → s.heap.get? b = some o → h'.get? b = some o) ∧ Holds P w h' s.heap.objs.size ys ∧ (∀ x, x ∈ ys ↔ x ∈ xs) ∧ ys.length ≤ xs.length) E)
      PySem.F.called_set.init.plain PySem.F.entry_set_init (check_set_init_1 ty ?_)) fun r2 t2 hr2 => ?_
    · obtain ⟨⟨oc, od, odt, osl⟩, hol, hcl, nl, hdl⟩ := hl
      simp only at hcl hdl
      subst hcl hdl
      have hlt : l < s.heap.objs.size := Heap.lt_size hol
      have il1 : (s.heap.push (new0 w)).IsList l us := ⟨_, Heap.get?_push_of_some _ hol, rfl, nl, rfl⟩
      have ol := Heap.get?_push_of_some (new0 w) hol
      have sb1 := PySem.F.sub_list_set
      have sb2 := PySem.F.sub_list_frozenset
      have nd : (Value.type "list" == Value.type "dict") = false := by decide
      unfold Builtin.«set.__init__» noKeywords Builtin.Frozenset.updateFrom
      generalize hPI : pyIter = PI
      wp_walk
      subst hPI
      refine wpAny_pyIter_list il1 (wpAny_bind (wpAny_runValue ?_))
      have hh3 : A.in1.in1.in1.handled = none := by simp [hh]
      have z1 : (s.heap.push (new0 w)).objs.size = s.heap.objs.size + 1 := Heap.size_push ..
      have ne1 : l ≠ (s.heap.push (new0 w)).objs.size := by rw [z1]; exact Nat.ne_of_lt (Nat.lt_succ_of_lt hlt)
      have out : s.heap.objs.size ∉ [(s.heap.push (new0 w)).objs.size, l] := by
        rw [z1]
        intro h
        rcases List.mem_cons.mp h with h | h
        · exact Nat.ne_of_lt (Nat.lt_succ_self _) h
        · exact Nat.ne_of_gt hlt (List.mem_singleton.mp h)
      refine update_loop ((Walks.list hh3 _ l ne1 us).toS) s.heap.objs.size out xs hsz hb (fun i v hv => strs_get hx i v (by rw [Array.getElem?_toList]; exact hv)) (us.size - 0) 0 _ (by omega) (Nat.zero_le _)
        ⟨⟨_, Heap.get?_push_size _ rfl, rfl, rfl⟩, il1.push _⟩ ⟨[], holds_new (Heap.get?_push_of_some _ h0), Nat.le_refl _, fun x => by simp⟩ fun t ys mv Hy U => ?_
      obtain ⟨h', g', d', tk', os'⟩ := t
      obtain rfl : g' = s.gens := mv.gens
      obtain rfl : d' = s.drawn := mv.drawn
      obtain rfl : os' = s.os := mv.os
      have fin : ∀ b o, b < s.heap.objs.size → s.heap.get? b = some o → h'.get? b = some o := fun b o hb e => ?fin
      case fin =>
        refine mv.heap b o (fun z => ?_) (Heap.get?_push_of_some _ (Heap.get?_push_of_some _ e))
        rcases List.mem_cons.mp z with z | z
        · exact Nat.ne_of_lt hb z
        · have z := List.mem_singleton.mp z
          rw [z1] at z
          exact Nat.ne_of_lt (Nat.lt_succ_of_lt hb) z
      show wpAny _ _ _ _ _ _
      refine wpAny_pure ?_
      show wpAny _ _ (ret Value.none) _ _ _
      exact wpAny_pure ⟨rfl, h', tk', ys, rfl, fin, Hy, fun x => by rw [U.2, ← hsz, List.take_length], by rw [hsz]; exact U.1⟩
    · match r2, hr2 with
      | .error e, hr2 => exact hr2
      | .ok (.ret v2), hr2 =>
        obtain ⟨rfl, h', tk, ys, rfl, k1, k2, k3, k4⟩ := hr2
        repeat (any_goals (first | assumption | wp_step))
        exact q _ _ _ k1 k2 k3 k4
end
end GS
set_option Elab.async false
set_option linter.all false
set_option maxRecDepth 100000
set_option maxHeartbeats 8000000
namespace GS
open PySem PySem.Spec PyProof.Rows L2
open PySem.Froz (SD sObj tailTx addTx TxOk)
section
variable {P : Program} {w : World} {A : Around} {E : Value → Shared → Prop} {s : Shared}
/-- set(xs), xs a tuple of texts -/
theorem call_setT {l : Addr} {us : Array Value} {xs : List Str} {Q : Value → Shared → Prop} (hh : A.handled = none) (hl : s.heap.IsTuple l us) (hx : StrsAre us.toList xs) (hb : us.size + 1 < scanBound)
    (q : ∀ h' tk ys, (∀ b o, b < s.heap.objs.size → s.heap.get? b = some o → h'.get? b = some o) → Holds P w h' s.heap.objs.size ys → (∀ x, x ∈ ys ↔ x ∈ xs) → ys.length ≤ xs.length → Q (.ref s.heap.objs.size) { s with heap := h', toks := tk }) :
    wpAny (model P w) A (call (.type "set") [.ref l]) Q E s := by
  have hsz : xs.length = us.size := by
    have : us.toList.length = xs.length := by
      clear q hb hl
      generalize us.toList = z at hx
      induction hx with
      | nil => rfl
      | cons _ _ _ ih => simp [ih]
    rw [← this, Array.length_toList]
  obtain ⟨c, tl, hmro⟩ := PySem.F.called_set.mro
  have made := PySem.F.called_set.made
  have sub := PySem.F.called_set.sub
  have nt := PySem.F.called_set.notType
  have cc := PySem.F.called_set.canCreate
  have tc := PySem.F.typeCall_set_1 (.ref l)
  refine wpAny_call (codeAny_of_tree (M := model P w) ?_)
  refine wpAny_pure (A := A.in1) ⟨Code.quiet_builtin _ (by decide +kernel), codeAny_builtin PySem.F.entry_type_call ?_⟩
  rw [Around.under_plain (weight_type_call_type "set" [.ref l] []) rfl]
  repeat (any_goals (first | assumption | wp_step))
  refine codeAny_mono (code_set_led1 (.ref l) (E := E) (Q₁ := fun v t => v = .ref s.heap.objs.size ∧ t = { s with heap := s.heap.push (new0 w) }) ⟨rfl, rfl⟩) fun r t hr => ?_
  match r, hr with
  | .error e, hr => exact hr
  | .ok (.ret v), hr =>
    obtain ⟨rfl, rfl⟩ := hr
    have h0 : (s.heap.push (new0 w)).get? s.heap.objs.size = some (new0 w) := Heap.get?_push_size _ rfl
    have ty : Shared.TypeIs { s with heap := s.heap.push (new0 w) } (.ref s.heap.objs.size) "set" := ⟨_, h0, rfl⟩
    have il := PySem.F.called_set.init.lookup
    have ib := PySem.F.called_set.init.bind (.ref s.heap.objs.size)
    repeat (any_goals (first | assumption | wp_step))
    refine codeAny_mono (codeAny_call_builtin (R := wants (fun r t => r = .none ∧ ∃ h' tk ys, t = { s with heap := h', toks := tk } ∧ (∀ b o, b < s.heap.objs.size → s.heap.get? b = some o → h'.get? b = some o) ∧ Holds P w h' s.heap.objs.size ys ∧ (∀ x, x ∈ ys ↔ x ∈ xs) ∧ ys.length ≤ xs.length) E)
      PySem.F.called_set.init.plain PySem.F.entry_set_init (check_set_init_1 ty ?_)) fun r2 t2 hr2 => ?_
    · obtain ⟨⟨oc, od, odt, osl⟩, hol, hcl, nl, hdl⟩ := hl
      simp only at hcl hdl
      subst hcl hdl
      have hlt : l < s.heap.objs.size := Heap.lt_size hol
      have il1 : (s.heap.push (new0 w)).IsTuple l us := ⟨_, Heap.get?_push_of_some _ hol, rfl, nl, rfl⟩
      have ol := Heap.get?_push_of_some (new0 w) hol
      have sb1 := PySem.F.sub_tuple_set
      have sb2 := PySem.F.sub_tuple_frozenset
      have nd : (Value.type "tuple" == Value.type "dict") = false := by decide
      unfold Builtin.«set.__init__» noKeywords Builtin.Frozenset.updateFrom
      generalize hPI : pyIter = PI
      wp_walk
      subst hPI
      refine wpAny_pyIter_tuple il1 (wpAny_bind (wpAny_runValue ?_))
      have hh3 : A.in1.in1.in1.handled = none := by simp [hh]
      have z1 : (s.heap.push (new0 w)).objs.size = s.heap.objs.size + 1 := Heap.size_push ..
      have ne1 : l ≠ (s.heap.push (new0 w)).objs.size := by rw [z1]; exact Nat.ne_of_lt (Nat.lt_succ_of_lt hlt)
      have out : s.heap.objs.size ∉ [(s.heap.push (new0 w)).objs.size, l] := by
        rw [z1]
        intro h
        rcases List.mem_cons.mp h with h | h
        · exact Nat.ne_of_lt (Nat.lt_succ_self _) h
        · exact Nat.ne_of_gt hlt (List.mem_singleton.mp h)
      refine update_loop ((Walks.tuple hh3 _ l ne1 us).toS) s.heap.objs.size out xs hsz hb (fun i v hv => strs_get hx i v (by rw [Array.getElem?_toList]; exact hv)) (us.size - 0) 0 _ (by omega) (Nat.zero_le _)
        ⟨⟨_, Heap.get?_push_size _ rfl, rfl, rfl⟩, il1.push _⟩ ⟨[], holds_new (Heap.get?_push_of_some _ h0), Nat.le_refl _, fun x => by simp⟩ fun t ys mv Hy U => ?_
      obtain ⟨h', g', d', tk', os'⟩ := t
      obtain rfl : g' = s.gens := mv.gens
      obtain rfl : d' = s.drawn := mv.drawn
      obtain rfl : os' = s.os := mv.os
      have fin : ∀ b o, b < s.heap.objs.size → s.heap.get? b = some o → h'.get? b = some o := fun b o hb e => ?fin
      case fin =>
        refine mv.heap b o (fun z => ?_) (Heap.get?_push_of_some _ (Heap.get?_push_of_some _ e))
        rcases List.mem_cons.mp z with z | z
        · exact Nat.ne_of_lt hb z
        · have z := List.mem_singleton.mp z
          rw [z1] at z
          exact Nat.ne_of_lt (Nat.lt_succ_of_lt hb) z
      show wpAny _ _ _ _ _ _
      refine wpAny_pure ?_
      show wpAny _ _ (ret Value.none) _ _ _
      exact wpAny_pure ⟨rfl, h', tk', ys, rfl, fin, Hy, fun x => by rw [U.2, ← hsz, List.take_length], by rw [hsz]; exact U.1⟩
    · match r2, hr2 with
      | .error e, hr2 => exact hr2
      | .ok (.ret v2), hr2 =>
        obtain ⟨rfl, h', tk, ys, rfl, k1, k2, k3, k4⟩ := hr2
        repeat (any_goals (first | assumption | wp_step))
        exact q _ _ _ k1 k2 k3 k4
end
end GS
set_option Elab.async false
set_option linter.all false
set_option maxRecDepth 100000
set_option maxHeartbeats 4000000
/-! lots of texts: in order, each once -/
namespace GS
open PySem PySem.Spec PyProof.Rows
theorem ltc_irr : ∀ a : List Nat, ltCps a a = false
  | [] => rfl
  | x :: a => by simp [ltCps, ltc_irr a]
theorem ltc_tr : ∀ {a b c : List Nat}, ltCps a b = true → ltCps b c = true → ltCps a c = true
  | [], _ :: _, [], _, h => by simp [ltCps] at h
  | [], _, _ :: _, _, _ => rfl
  | [], [], [], h, _ => by simp [ltCps] at h
  | _ :: _, [], _, h, _ => by simp [ltCps] at h
  | _ :: _, _ :: _, [], _, h => by simp [ltCps] at h
  | x :: a, y :: b, z :: c, h1, h2 => by
    simp only [ltCps, Bool.or_eq_true, decide_eq_true_eq, Bool.and_eq_true, beq_iff_eq] at h1 h2 ⊢
    rcases h1 with h1 | ⟨rfl, h1⟩
    · rcases h2 with h2 | ⟨rfl, _⟩
      · exact .inl (Nat.lt_trans h1 h2)
      · exact .inl h1
    · rcases h2 with h2 | ⟨rfl, h2⟩
      · exact .inl h2
      · exact .inr ⟨rfl, ltc_tr h1 h2⟩
theorem ltc_tri : ∀ {a b : List Nat}, ltCps a b = false → ltCps b a = false → a = b
  | [], [], _, _ => rfl
  | [], _ :: _, h, _ => by simp [ltCps] at h
  | _ :: _, [], _, h => by simp [ltCps] at h
  | x :: a, y :: b, h1, h2 => by
    simp only [ltCps, Bool.or_eq_false_iff, decide_eq_false_iff_not, Bool.and_eq_false_iff, beq_eq_false_iff_ne] at h1 h2
    obtain ⟨p1, p2⟩ := h1
    obtain ⟨q1, q2⟩ := h2
    obtain rfl : x = y := by omega
    rcases p2 with p2 | p2
    · exact absurd rfl p2
    · rcases q2 with q2 | q2
      · exact absurd rfl q2
      · rw [ltc_tri p2 q2]
theorem str_ext {x y : Str} (h : x.cps.toList = y.cps.toList) : x = y := by
  cases x; cases y
  simp only [Str.mk.injEq]
  exact Array.ext' h
/-- x stands ahead of y -/
def Lt (x y : Str) : Prop := ltCps x.cps.toList y.cps.toList = true
theorem Lt.irr {x : Str} (h : Lt x x) : False := by unfold Lt at h; rw [ltc_irr] at h; cases h
theorem Lt.tr {x y z : Str} (a : Lt x y) (b : Lt y z) : Lt x z := ltc_tr a b
theorem Lt.tri {x y : Str} (a : ¬ Lt x y) (b : ¬ Lt y x) : x = y := str_ext (ltc_tri (Bool.eq_false_iff.mpr a) (Bool.eq_false_iff.mpr b))
abbrev Asc (xs : List Str) : Prop := xs.Pairwise Lt
theorem Asc.uniq : ∀ {xs ys : List Str}, Asc xs → Asc ys → (∀ z, z ∈ xs ↔ z ∈ ys) → xs = ys
  | [], [], _, _, _ => rfl
  | [], y :: ys, _, _, h => by have := (h y).mpr List.mem_cons_self; simp at this
  | x :: xs, [], _, _, h => by have := (h x).mp List.mem_cons_self; simp at this
  | x :: xs, y :: ys, hx, hy, h => by
    obtain ⟨x1, x2⟩ := List.pairwise_cons.mp hx
    obtain ⟨y1, y2⟩ := List.pairwise_cons.mp hy
    have e : x = y := by
      have a := (h x).mp List.mem_cons_self
      have b := (h y).mpr List.mem_cons_self
      rcases List.mem_cons.mp a with a | a
      · exact a
      · rcases List.mem_cons.mp b with b | b
        · exact b.symm
        · exact ((x1 y b).tr (y1 x a)).irr.elim
    subst e
    rw [Asc.uniq x2 y2 fun z => ?_]
    have hz := h z
    rw [List.mem_cons, List.mem_cons] at hz
    constructor
    · intro m
      rcases hz.mp (.inr m) with q | q
      · subst q; exact (x1 z m).irr.elim
      · exact q
    · intro m
      rcases hz.mpr (.inr m) with q | q
      · subst q; exact (y1 z m).irr.elim
      · exact q
/-- ys is the lot of xs -/
structure IsLot (ys xs : List Str) : Prop where
  asc : Asc ys
  mem : ∀ z, z ∈ ys ↔ z ∈ xs
theorem IsLot.uniq {ys zs xs xs' : List Str} (a : IsLot ys xs) (b : IsLot zs xs') (h : ∀ z, z ∈ xs ↔ z ∈ xs') : ys = zs := Asc.uniq a.asc b.asc fun z => (a.mem z).trans ((h z).trans (b.mem z).symm)
theorem Asc.nodup {xs : List Str} (h : Asc xs) : xs.Nodup := h.imp fun a e => (e ▸ a).irr
/-- sorted, equal ones may stand side by side -/
theorem pw_of_sorted : ∀ {xs : List Str}, sortedS xs = true → xs.Pairwise fun a b => ¬ Lt b a
  | [], _ => .nil
  | x :: xs, h => go x xs h
where go (x : Str) : ∀ (xs : List Str), risingS x xs = true → (x :: xs).Pairwise fun a b => ¬ Lt b a
  | [], _ => List.pairwise_singleton _ _
  | y :: xs, h => by
    have h' : (!ltCps y.cps.toList x.cps.toList && risingS y xs) = true := h
    rw [Bool.and_eq_true, Bool.not_eq_true'] at h'
    have r := go y xs h'.2
    refine List.pairwise_cons.mpr ⟨fun z hz => ?_, r⟩
    have hyx : ¬ Lt y x := by unfold Lt; rw [h'.1]; exact Bool.false_ne_true
    rcases List.mem_cons.mp hz with rfl | hz
    · exact hyx
    · intro c
      have hzy := (List.pairwise_cons.mp r).1 z hz
      by_cases e : Lt x y
      · exact hzy (Lt.tr c e)
      · rw [Lt.tri e hyx] at c; exact hzy c
theorem asc_of : ∀ {xs : List Str}, xs.Pairwise (fun a b => ¬ Lt b a) → xs.Nodup → Asc xs
  | [], _, _ => .nil
  | x :: xs, h, n => by
    obtain ⟨h1, h2⟩ := List.pairwise_cons.mp h
    obtain ⟨n1, n2⟩ := List.nodup_cons.mp n
    refine List.pairwise_cons.mpr ⟨fun y hy => ?_, asc_of h2 n2⟩
    by_cases c : Lt x y
    · exact c
    · exact absurd (Lt.tri c (h1 y hy) ▸ hy) n1
end GS
set_option Elab.async false
set_option linter.all false
set_option maxRecDepth 100000
set_option maxHeartbeats 8000000
namespace GS
open PySem PySem.Spec PyProof.Rows L2
open PySem.Froz (SD sObj tailTx addTx TxOk)
section
variable {P : Program} {w : World} {A : Around} {E : Value → Shared → Prop} {s : Shared}
theorem strs_of : ∀ (us : List Value), (∀ v ∈ us, ∃ k t, v = Value.str k t) → ∃ xs, StrsAre us xs
  | [], _ => ⟨[], .nil⟩
  | v :: us, h => by
    obtain ⟨k, t, rfl⟩ := h v List.mem_cons_self
    obtain ⟨xs, q⟩ := strs_of us fun u hu => h u (List.mem_cons_of_mem _ hu)
    exact ⟨_, .cons k t q⟩
theorem strs_mem : ∀ {us : List Value} {xs : List Str}, StrsAre us xs → ∀ x, x ∈ xs ↔ ∃ t, Value.str x t ∈ us
  | _, _, .nil, x => by simp
  | _, _, .cons n t r, x => by
    rw [List.mem_cons, strs_mem r x]
    constructor
    · rintro (rfl | ⟨t', h⟩)
      · exact ⟨t, List.mem_cons_self⟩
      · exact ⟨t', List.mem_cons_of_mem _ h⟩
    · rintro ⟨t', h⟩
      rcases List.mem_cons.mp h with h | h
      · cases h; exact .inl rfl
      · exact .inr ⟨t', h⟩
theorem strs_len : ∀ {us : List Value} {xs : List Str}, StrsAre us xs → us.length = xs.length
  | _, _, .nil => rfl
  | _, _, .cons n t r => by simp [strs_len r]
theorem perm_of_sub : ∀ {l ss : List Str}, l.Nodup → (∀ x, x ∈ l → x ∈ ss) → ss.length = l.length → ss.Perm l
  | [], ss, _, _, e => by
    have : ss = [] := List.eq_nil_of_length_eq_zero e
    rw [this]
  | x :: l, ss, n, h, e => by
    obtain ⟨n1, n2⟩ := List.nodup_cons.mp n
    have hx := h x List.mem_cons_self
    have p := List.perm_cons_erase hx
    have r := perm_of_sub (ss := ss.erase x) n2 (fun y hy => (List.mem_erase_of_ne (fun z : y = x => n1 (z ▸ hy))).mpr (h y (List.mem_cons_of_mem _ hy))) (by
      have := p.length_eq
      simp only [List.length_cons] at this e
      omega)
    exact p.trans (r.cons x)
/-- sorted(set) -/
theorem sort_set {a : Addr} {l : List Str} {Q : Value → Shared → Prop} (H : Holds P w s.heap a l) (hh : A.handled = none) (hb : l.length < scanBound)
    (q : ∀ s' p (out : Array Value) (c : Nat) ys, (∀ b o, s.heap.get? b = some o → s'.heap.get? b = some o) → s'.gens = s.gens → s'.os = s.os → s.heap.objs.size ≤ p → s'.heap.get? p = some (seqObj "list" out c) → StrsAre out.toList ys → IsLot ys l → ys.length = l.length → Q (.ref p) s') :
    wpAny (model P w) A (call (.builtin "sorted") [.ref a]) Q E s := by
  obtain ⟨⟨xs, n, tb⟩, ho, F, L, nd⟩ := H
  have hsz : xs.size = l.length := F.sz
  refine Calls.call_function_entry kind_sorted plain_sorted entry_sorted (args_sorted1 _) ?_
  unfold Builtin.«sorted»
  refine wpAny_bind (m := checkCount "sorted" 1 1 _) (wpAny_pure (wpAny_bind (collect_set (A := A.in1) hh ⟨_, ho, rfl, rfl⟩ F.fit (by rw [hsz]; exact hb) L.1 L.2 fun s1 vs k1 z1 g1 o1 pm => ?_)))
  have all : ∀ v ∈ vs, ∃ k t, v = Value.str k t := fun v hv => by
    obtain ⟨e, he, rfl⟩ := List.mem_map.mp (pm.mem_iff.mp hv)
    obtain ⟨⟨k, hk, _⟩, _⟩ := F.el e he
    obtain ⟨t, ht⟩ := Value.isStrOf_shape hk
    exact ⟨k, t, ht⟩
  obtain ⟨ss, hss⟩ := strs_of vs all
  have hlen : vs.length = l.length := by rw [pm.length_eq, List.length_map, Array.length_toList, hsz]
  have hmem : ∀ x, x ∈ ss ↔ x ∈ l := fun x => by
    rw [strs_mem hss, F.mem]
    constructor
    · rintro ⟨t, ht⟩
      obtain ⟨e, he, hz⟩ := List.mem_map.mp (pm.mem_iff.mp ht)
      exact ⟨e, he, by rw [hz]; exact Froz.is_str x t⟩
    · rintro ⟨e, he, hz⟩
      obtain ⟨t, ht⟩ := Value.isStrOf_shape (x := x) hz
      exact ⟨t, ht ▸ pm.mem_iff.mpr (List.mem_map_of_mem he)⟩
  have hle : ss.length = l.length := (strs_len hss).symm.trans hlen
  have snd : ss.Nodup := (perm_of_sub nd (fun x hx => (hmem x).mpr hx) hle).nodup_iff.mpr nd
  have fits : vs.length ≤ sizeLine := by rw [hlen]; exact fits_of_scanBound hb
  refine wpAny_bind (wpAny_newList ?_ fits)
  have hoL : (s1.heap.push (seqObj "list" vs.toArray 0)).get? s1.heap.objs.size = some (seqObj "list" vs.toArray 0) := Heap.get?_push_size _ rfl
  refine wpAny_bind (wpAny_holding (wpAny_call_entry slot_list_sort ⟨_, hoL, rfl⟩ entry_list_sort (list_sort_treeKAny strKind_oneLt hoL hss.keysOf (fun v₁ v₂ rest e => keyKind_strs (by rw [← e]; exact hss)) fits fun st' b1 b2 => ⟨_, rfl, ?_⟩) (args_list_sort _)))
  obtain ⟨ys, y1, y2, y3⟩ := sorted_out_str hss b1 b2
  obtain ⟨c, hc⟩ := sortedHeap_at (vs := vs) (out := (arrOf st').map (·.2)) hoL
  refine wpAny_pure ⟨_, rfl, q _ s1.heap.objs.size _ c ys (fun b u e => ?_) g1 o1 z1 hc y1 ⟨asc_of (pw_of_sorted y3) (y2.nodup_iff.mpr snd), fun x => (y2.mem_iff).trans (hmem x)⟩ (y2.length_eq.trans hle)⟩
  have e1 := k1 b u e
  have lt := Heap.lt_size e1
  show (sortedHeap (s1.heap.push (seqObj "list" vs.toArray 0)) s1.heap.objs.size vs ((arrOf st').map (·.2))).get? b = some u
  rw [sortedHeap_old (Nat.ne_of_lt lt) (by rw [size_push']; exact Nat.lt_succ_of_lt lt)]
  exact Heap.get?_push_of_some _ e1
end
section
variable {X : Cx}
def SetHO (P : Program) (w : World) (a : Addr) (l : List Str) : HO := .ext fun h => Holds P w h a l
/-- set(xs) -/
def rSet (X : Cx) : List V → Hp → VK → Prop := fun vs H Q => ∃ (p : Addr) (xs : List Str), vs = [.ref p] ∧ (SqL X.K H p (xs.map V.str) ∨ SqT X.K H p (xs.map V.str)) ∧ xs.length + 1 < scanBound ∧
  ∀ a l, H a = none → (∀ x, x ∈ l ↔ x ∈ xs) → l.length ≤ xs.length → l.Nodup → Q (.ref a) (upd H a (SetHO X.prog X.w a l))
theorem cr_set (hc : X.calm = true) : CallR X (.type "set") (rSet X) := by
  intro pins s σ H vs us Q I r h
  obtain ⟨p, xs, rfl, hs, hb, q⟩ := h
  have fin : ∀ h' tk ys, (∀ b o, b < s.heap.objs.size → s.heap.get? b = some o → h'.get? b = some o) → Holds X.prog X.w h' s.heap.objs.size ys → (∀ x, x ∈ ys ↔ x ∈ xs) → ys.length ≤ xs.length → EP X pins σ Q (.ref s.heap.objs.size) { s with heap := h', toks := tk } := fun h' tk ys k Hy m1 m2 => by
    have new : ObjOk X.prog X.w (upd H s.heap.objs.size (SetHO X.prog X.w s.heap.objs.size ys)) h' s.heap.objs.size (SetHO X.prog X.w s.heap.objs.size ys) := by
      obtain ⟨D, e, r⟩ := Hy
      exact ⟨⟨D, e, r⟩, ⟨_, e⟩, fun h1 h2 a b => Holds.stay a b⟩
    exact ⟨.ref _, _, I.laid (t' := tk) (fun b u e => k b u (Heap.lt_size e) e) (Nat.le_refl _) new, rfl, q _ _ (I.hok.fresh (Nat.le_refl _)) m1 m2 (by obtain ⟨D, _, _, _, nd⟩ := Hy; exact nd)⟩
  rw [Vals.ref1 r]
  rcases hs with hs | hs
  · obtain ⟨its, rv, hl, _⟩ := I.list hs
    have hlen := rv.length
    rw [List.length_map] at hlen
    exact call_set (I.ok.hd hc) hl.isList (by simpa using rv.strs) (by rw [List.size_toArray, ← hlen]; exact hb) fin
  · obtain ⟨its, rv, hl, _⟩ := I.tuple hs
    have hlen := rv.length
    rw [List.length_map] at hlen
    exact call_setT (I.ok.hd hc) hl (by simpa using rv.strs) (by rw [List.size_toArray, ← hlen]; exact hb) fin
/-- sorted(set) -/
def rSortSet (X : Cx) : List V → Hp → VK → Prop := fun vs H Q => ∃ (a : Addr) (l : List Str), vs = [V.ref a] ∧ H a = some (SetHO X.prog X.w a l) ∧ l.length < scanBound ∧
  ∀ ys p, IsLot ys l → ys.length = l.length → H p = none → Q (.ref p) (upd H p (.lst (ys.map V.str)))
theorem cr_sortSet (hc : X.calm = true) : CallR X (.builtin "sorted") (rSortSet X) := by
  intro pins s σ H vs us Q I r h
  obtain ⟨a, l, rfl, ha, hb, q⟩ := h
  have Hl : Holds X.prog X.w s.heap a l := (I.hok a _ ha).1
  rw [Vals.ref1 r]
  refine sort_set Hl (I.ok.hd hc) hb fun s' p out c ys k g o hp hg hi hs hl => ?_
  have hlen : (ys.map V.str).length ≤ sizeLine := by rw [List.length_map, hl]; exact fits_of_scanBound hb
  have hn : H p = none := I.hok.fresh hp
  have J : Inv X pins σ (upd H p (.lst (ys.map V.str))) { s with heap := s'.heap, gens := s'.gens, drawn := s'.drawn, toks := s'.toks } :=
    I.call (ch := []) (Un.laid k hp hn) (I.hok.laid k hp ⟨hlen, out.toList, c, vals_of_strs hi, hg⟩) (by rw [g]; exact I.bare) (fun _ z => nomatch z)
  have e : s' = { s with heap := s'.heap, gens := s'.gens, drawn := s'.drawn, toks := s'.toks } := by
    cases s'; cases s; cases o; rfl
  rw [e]
  exact ⟨.ref p, _, J, rfl, q ys p hs hl hn⟩
/-- sorted(xs), texts, any number of them -/
def rSortS (K : PySem.W.Frag) : List V → Hp → VK → Prop := fun vs H Q => ∃ (a : Addr) (xs : List Str), vs = [V.ref a] ∧ SqL K H a (xs.map V.str) ∧
  ∀ (ys : List Str) (p : Addr), ys.Perm xs → ys.Pairwise (fun x y => ¬ Lt y x) → H p = none → Q (.ref p) (upd H p (.lst (ys.map V.str)))
theorem cr_sortS : CallR X (.builtin "sorted") (rSortS X.K) := by
  intro pins s σ H vs us Q I r h
  obtain ⟨a, xs, rfl, hs, q⟩ := h
  obtain ⟨its, rv, hl, hz⟩ := I.list hs
  rw [Vals.ref1 r]
  have hlen0 := rv.length
  refine sorted_strsAny hl.isList rv.strs (by rw [← hlen0]; exact hz) fun out ys h1 h2 h3 => ?_
  obtain ⟨ep, he⟩ := sortedAll_at s.heap its out
  have hlen : (ys.map V.str).length ≤ sizeLine := by rw [List.length_map, h2.length_eq, ← List.length_map (f := V.str)]; exact hz
  exact ⟨.ref _, upd H (s.heap.objs.size + 1) (.lst (ys.map V.str)), I.laid (t' := s.toks) (fun _ _ => sortedAll_old) (Nat.le_succ _) ⟨hlen, out.toList, ep, vals_of_strs h1, he⟩, rfl, q ys _ h2 (pw_of_sorted h3) (I.hok.fresh (Nat.le_succ _))⟩
end
end GS
namespace G
open PySem L2
section
variable {Z : Wd} {δ : List S} {te : TE} {Ω : OD → List S → Prop} {X : Cx}
/-- sorted(set(xs)) -/
theorem xo_lot (hK : X.K = Z.K) (h : XE Z te δ fun d δ1 => ∃ xs : List Str, (d = .lst (xs.map .str) ∨ d = .tup (xs.map .str)) ∧ xs.length < 4000 ∧ ∀ ys, GS.IsLot ys xs → ys.length ≤ xs.length → Ω (.lst (ys.map .str)) δ1) :
    XO Z (tCB (GS.rSortSet X) (tCons (tCB (GS.rSet X) (tCons te tNil)) tNil)) δ Ω := XO.mk fun B W M H σ Q I q =>
  h.run I fun M1 H1 δ1 x a h1 e1 I1 at1 => by
    obtain ⟨xs, hd, hx, f⟩ := h1
    have sq : ∃ p, x = .ref p ∧ (SqL X.K H1 p (xs.map V.str) ∨ SqT X.K H1 p (xs.map V.str)) := by
      rcases hd with rfl | rfl
      · cases at1 with
        | lst k l c =>
          have := AtL.strs (Z := Z) (M := M1) ⟨l, c⟩
          subst this
          exact ⟨_, rfl, .inl (SqL.of (I1.ex _ _ k))⟩
      · cases at1 with
        | tup k l c =>
          have := AtL.strs (Z := Z) (M := M1) ⟨l, c⟩
          subst this
          exact ⟨_, rfl, .inr (hK ▸ sqT_mono I1.ex k)⟩
    obtain ⟨p, rfl, sq⟩ := sq
    refine ⟨p, xs, rfl, sq, Nat.lt_of_le_of_lt (Nat.succ_le_of_lt hx) (by decide), fun a l1 ha m1 m2 _ => ?_⟩
    have hm := I1.ex.free ha
    have I2 : I3 Z B W M1 (upd H1 a (GS.SetHO X.prog X.w a l1)) σ δ1 := I1.other (I1.fresh ha) hm (I1.newOwn ha)
    refine ⟨a, l1, rfl, upd_same, Nat.lt_of_le_of_lt (Nat.le_trans m2 (Nat.le_of_lt hx)) (by decide), fun ys p hy hl hp => ?_⟩
    exact newO (o := .lst _) (y := .lst _) I2 hp (AtL.ofStrs ys) (f ys ⟨hy.asc, fun z => (hy.mem z).trans (m1 z)⟩ (by omega)) e1 q
theorem xo_sort (h : XE Z te δ fun d δ1 => ∃ xs : List Str, d = .lst (xs.map .str) ∧ ∀ ys : List Str, ys.Perm xs → ys.Pairwise (fun x y => ¬ GS.Lt y x) → Ω (.lst (ys.map .str)) δ1) :
    XO Z (tCB (GS.rSortS Z.K) (tCons te tNil)) δ Ω := XO.mk fun B W M H σ Q I q =>
  h.run I fun M1 H1 δ1 x a h1 e1 I1 at1 => by
    obtain ⟨xs, rfl, f⟩ := h1
    cases at1 with
    | lst k l c =>
      rename_i p vs
      have := AtL.strs (Z := Z) (M := M1) ⟨l, c⟩
      subst this
      exact ⟨p, xs, rfl, SqL.of (I1.ex _ _ k), fun ys p h1 h2 hp => newO (o := .lst _) (y := .lst _) I1 hp (AtL.ofStrs ys) (f ys h1 h2) e1 q⟩
end
end G
set_option Elab.async false
set_option linter.all false
set_option maxRecDepth 100000
set_option maxHeartbeats 4000000
/-! enumerate of a tuple -/
namespace GE
open PySem PySem.Spec PyProof.Rows L2
theorem new_enum {v : Value} {o : Obj} {C : Heap → Prop} (B : Begins v o C) : Meets (Builtin.«enumerate.__new__» ⟨[.type "enumerate", v], []⟩) (fun _ R s => C s.heap ∧
    R (.ok (.ret (.ref (s.heap.push o).objs.size))) { s with heap := (s.heap.push o).push { cls := .type "enumerate", data := .fields #[.none, .bool false, .ref s.heap.objs.size, rawInt 0, .none, .none] } }) :=
  .of_wp fun prog w A R s h => by
    obtain ⟨hp, g, d, tk, os⟩ := s
    obtain ⟨c0, fin⟩ := h
    have sube := sub_enumerate
    have start : ∀ {A' : Around} {E Q : Value → Shared → Prop}, Q (.ref hp.objs.size) ⟨hp.push o, g, d, tk, os⟩ → wpAny (model prog w) A' (pyIter v) Q E ⟨hp, g, d, tk, os⟩ := fun q => B.iter prog w _ _ ⟨hp, g, d, tk, os⟩ _ c0 q
    wp_walk using start
    refine wpAny_stack_any fun st => wpAny_pure ?_
    split
    · rename_i c _ _ _ _ _
      cases (c == Value.type "enumerate") <;> (wp_walk using start; exact ⟨_, rfl, fin⟩)
    · wp_walk using start
      exact ⟨_, rfl, fin⟩
section
variable {prog : Program} {w : World} {A : Around} {E : Value → Shared → Prop} {s : Shared}
theorem call_enum {v : Value} {o : Obj} {C : Heap → Prop} {Q : Value → Shared → Prop} (B : Begins v o C) (c0 : C s.heap)
    (h : ∀ h', IsEnum h' (s.heap.objs.size + 1) s.heap.objs.size 0 .none → h'.get? s.heap.objs.size = some o → (∀ b u, s.heap.get? b = some u → h'.get? b = some u) → Q (.ref (s.heap.objs.size + 1)) { s with heap := h' }) :
    wpAny (model prog w) A (call (.type "enumerate") [v]) Q E s := by
  refine callType_new F.called_enumerate (by decide) (F.typeCall_enumerate_1 v) (F.newCall_enumerate_1 v) (fun x => F.args_object_init_2 x v) F.entry_enumerate_new (new_enum B) ⟨c0, ?_⟩
  have z : (s.heap.push o).objs.size = s.heap.objs.size + 1 := Heap.size_push ..
  have e : IsEnum ((s.heap.push o).push { cls := .type "enumerate", data := .fields #[.none, .bool false, .ref s.heap.objs.size, rawInt 0, .none, .none] }) (s.heap.objs.size + 1) s.heap.objs.size 0 .none := by
    have q := Heap.get?_push_size (s.heap.push o) (o := { cls := .type "enumerate", data := .fields #[.none, .bool false, .ref s.heap.objs.size, rawInt 0, .none, .none] }) rfl
    rwa [z] at q
  show _ ∧ _
  rw [z]
  exact ⟨⟨_, e, rfl⟩, h _ e (Heap.get?_push_of_some _ (Heap.get?_push_size _ B.free)) fun b u x => Heap.get?_push_of_some _ (Heap.get?_push_of_some _ x)⟩
end
/-- the tuple at a, each item in a new pair -/
def ItE (K : PySem.W.Frag) (a : Addr) : It :=
  ⟨fun i H => ∃ (xs : List V) (x : V), SqT K H a xs ∧ xs[i]? = some x, fun i H v H' => ∃ T x, v = .ref T ∧ H T = none ∧ H' = upd H T (.tup [.int (i : Nat), x]) ∧ ∀ xs, SqT K H a xs → xs[i]? = some x, fun i H => ∃ xs : List V, SqT K H a xs ∧ xs.length ≤ i⟩
theorem turnE {P : Program} {w : World} {K : PySem.W.Frag} {elts : List Expr} {kk : Nat} {tpos : Pos} (a e it : Addr) (hai : a ≠ it) (hea : e ≠ a) :
    Turn P w K (.Tuple elts kk tpos) (ItE K a) [e, it] e (fun i h => (∃ old, IsEnum h e it ((i : Nat) : Int) old) ∧ h.IsTupleIter it a i ∧ e ≠ it) where
  mem := by simp
  obj := fun i h st b hb => by
    obtain ⟨⟨old, he⟩, ⟨o, ho, hc, hd⟩, _⟩ := st
    have hb : b = e ∨ b = it := by simpa using hb
    rcases hb with rfl | rfl
    · exact ⟨_, he, fun v q => nomatch q⟩
    · exact ⟨o, ho, fun v q => by rw [hd] at q; cases q⟩
  keep := fun i h h' st k => let ⟨⟨old, he⟩, hi, hne⟩ := st; ⟨⟨old, k e (by simp) _ he⟩, hi.at fun o q => k it (by simp) o q, hne⟩
  item := by
    intro X hP hw hK hc i pins s σ H E I hf st hg
    subst hP hw hK
    obtain ⟨⟨old, he⟩, hit, hne⟩ := st
    obtain ⟨xs, x, hq, hx⟩ := hg
    obtain ⟨its, rv, p, hz⟩ := I.tuple hq
    obtain ⟨u, hu, ru⟩ := rv.get hx
    have elt : e < s.heap.objs.size := Heap.lt_size he
    have ilt : it < s.heap.objs.size := let ⟨_, q, _⟩ := hit; Heap.lt_size q
    have hlt : i < its.toArray.size := by simpa using (List.getElem?_eq_some_iff.mp hu).1
    refine wpAny_pyNext_enum_itemD (Draws.tuple (by simp [I.ok.hd hc]) it a hai its.toArray) he ⟨hit, p⟩ hlt hne (by simp [hne, hea]) fun y h' tk hy ho st' hT hsz hk => ?_
    obtain rfl : y = u := by
      have : its[i]? = some y := by simpa using hy
      rw [hu] at this; exact (Option.some.inj this).symm
    refine ⟨_, rfl, wpAny_letOwnedTupleGo_enum (s := { s with heap := h', toks := tk + 1 }) ho fun h'' he' sb => ?_⟩
    have hT2 : h''.get? s.heap.objs.size = some { cls := .type "tuple", data := .seq #[.int i tk, y] } := (sb.2 _ (Nat.ne_of_gt elt)).trans hT
    have new : ObjOk X.prog X.w (upd H s.heap.objs.size (.tup [.int (i : Nat), x])) h'' s.heap.objs.size (.tup [.int (i : Nat), x]) :=
      ⟨by show 2 ≤ sizeLine; decide, [.int i tk, y], .cons ⟨_, rfl⟩ (.cons ru .nil), ⟨_, hT2, rfl, _, rfl⟩⟩
    have J : Inv X pins σ (upd H s.heap.objs.size (.tup [.int (i : Nat), x])) { s with heap := h'', toks := tk + 1 } :=
      I.turnedNew (ch := [e, it]) (fun b ob hb q => (sb.2 b (fun z => hb (by simp [z]))).trans (hk b ob (fun z => hb (by simp [z])) (fun z => hb (by simp [z])) q)) hf (Nat.le_refl _) new
    refine ⟨.ref s.heap.objs.size, _, J, rfl, ⟨_, x, rfl, I.hok.fresh (Nat.le_refl _), rfl, fun ys hy => by rw [I.tuple_inj hy hq]; exact hx⟩, ⟨⟨y, ?_⟩, st'.1.at fun o q => (sb.2 it (Ne.symm hne)).trans q, hne⟩, fun b hb => ?_⟩
    · rw [show ((i + 1 : Nat) : Int) = (i : Int) + 1 by omega]; exact he'
    · have blt : b < s.heap.objs.size := by
        have hb : b = e ∨ b = it := by simpa using hb
        rcases hb with z | z
        · rw [z]; exact elt
        · rw [z]; exact ilt
      rw [upd_ne (Nat.ne_of_lt blt)]
      exact (hf b hb).1
  done := by
    intro X hP hw hK hc i pins s σ H E I hf st hg
    subst hP hw hK
    obtain ⟨⟨old, he⟩, hit, hne⟩ := st
    obtain ⟨xs, hq, hx⟩ := hg
    obtain ⟨its, rv, p, hz⟩ := I.tuple hq
    obtain ⟨f0, f1, f2, f3, f4, f5⟩ := hf it (by simp)
    have len := rv.length
    have gone : its.toArray[i]? = none := by simp; omega
    have hh : X.A.in1.handled = none := by simp [I.ok.hd hc]
    have D : Draws X.prog X.w X.A.in1 it [it, a] 0 (fun _ _ => True) (fun _ h => h.IsTupleIter it a i ∧ h.IsTuple a its.toArray) := {
      live := fun _ _ st => let ⟨o, ho, _⟩ := st.1; ⟨o, ho⟩
      frame := fun _ _ _ st k => ⟨st.1.at fun o q => k it (by simp) o q, st.2.at fun o q => k a (by simp) o q⟩
      item := fun j s Q E hj => absurd hj (Nat.not_lt_zero j)
      done := fun s Q E st q => wpAny_nextOf_tuple_end hh st.1 st.2 gone q }
    exact wpAny_pyNext_enum_endD D he ⟨hit, p⟩ fun h' eb => ⟨rfl, I.turned (t' := s.toks) (fun b o hb q => eb b o hb q) f0 f1 f3 f4 f5⟩
  self := fun A i s Q E st h => let ⟨⟨_, he⟩, _⟩ := st; wpAny_pyIter_enum he h
def iEnumT (K : PySem.W.Frag) (ta : TA) : TI := fun σ H R => ta σ H fun vs H1 => ∃ a xs, vs = [.ref a] ∧ SqT K H1 a xs ∧ R (ItE K a) H1
theorem pi_enumT {X : Cx} {e : Expr} {ta : TA} {p pos tpos : Pos} {elts : List Expr} {kk : Nat} (hg : Gl X "enumerate") (hm : X.mg "enumerate" = none) (ha : PA X [e] ta) (hs : starEach [e] X.env = [(false, eval e X.env)] := by rfl) :
    PI X (.Tuple elts kk tpos) (.Call (.Name "enumerate" p) [e] [] pos) (iEnumT X.K ta) := by
  refine ⟨fun pins s σ H R I h => Call_ (ld_blt I hg hm boot_enumerate (PyProof.Rows.callWith_type1 (thn (ha.run pos pins s σ H _ I h) fun us s1 ⟨vs, H1, I1, r1, q1⟩ => ?_) hs rfl))⟩
  obtain ⟨a, xs, rfl, hq, q⟩ := q1
  obtain ⟨u, rfl, r⟩ := vals1 r1
  cases r
  obtain ⟨its, rv, p', hz⟩ := I1.tuple hq
  have alt : a < s1.heap.objs.size := let ⟨_, q, _⟩ := p'; Heap.lt_size q
  refine call_enum (begins_tuple a its.toArray) p' fun h' he hit hk => wpAny_pyIter_enum he ?_
  have I2 : Inv X pins σ H1 { s1 with heap := h' } := I1.kept (t' := s1.toks) hk
  refine ⟨s1.heap.objs.size + 1, [s1.heap.objs.size + 1, s1.heap.objs.size], _, _, H1, rfl, I2, turnE a (s1.heap.objs.size + 1) s1.heap.objs.size (Nat.ne_of_lt alt) (Nat.ne_of_gt (Nat.lt_succ_of_lt alt)), ⟨⟨.none, he⟩, ⟨_, hit, rfl, rfl⟩, Nat.succ_ne_self _⟩, fun b hb => ?_, q⟩
  have hle : s1.heap.objs.size ≤ b := by
    have hb : b = s1.heap.objs.size + 1 ∨ b = s1.heap.objs.size := by simpa using hb
    rcases hb with z | z
    · rw [z]; exact Nat.le_succ _
    · rw [z]; exact Nat.le_refl _
  exact I1.fpOk hle (I1.hok.fresh hle)
end GE
namespace G
open PySem L2
section
variable {Z : Wd} {M H M' H' : Hp} {B : Bas} {W : List (Nat × Addr)} {σ σ' : St} {δ : List S} {te : TE} {Λ : List D → List S → Prop}
theorem xi_enumT (h : XE Z te δ fun d δ1 => ∃ xs, d = .tup xs ∧ Λ (enumD xs) δ1) : XI Z (GE.iEnumT Z.K (tCons te tNil)) δ Λ := fun B W M H σ R I q =>
  h.run I fun M1 H1 δ1 x a h1 e1 I1 at1 => by
    obtain ⟨xs, rfl, f⟩ := h1
    cases at1 with
    | tup k l c =>
      rename_i p us
      refine ⟨p, us, rfl, sqT_mono I1.ex k, q M1 H1 δ1 _ _ f e1 I1 ⟨fun i H hi e => ?_, fun H e => ?_, fun i H x H' M2 hi ea eb y => ?_⟩⟩
      · rw [enumD_len] at hi
        exact ⟨us, us[i]'(by rw [l]; exact hi), sqT_mono e k, by simp [l, hi]⟩
      · exact ⟨us, sqT_mono e k, by rw [enumD_len, l]; exact Nat.le_refl _⟩
      · obtain ⟨T, z, h1, h2, h3, h4⟩ := y
        have hz := h4 us (sqT_mono (ea.tr eb) k)
        obtain ⟨d, hd, ad⟩ := AtL.getV (Z := Z) (M := M1) ⟨l, c⟩ hz
        refine ⟨_, ?_, .inr ⟨T, _, [.int (i : Nat), d], h2, h3, h1, .cons .int (.one (ad.mono ea)), rfl⟩⟩
        simp only [enumD, List.getElem?_map, List.getElem?_zipIdx, hd]; simp
/-- a walk in one of two ways -/
theorem pi_or {X : Cx} {tg e : Expr} {w1 w2 : TI} (a : PI X tg e w1) (b : PI X tg e w2) : PI X tg e (fun σ H R => w1 σ H R ∨ w2 σ H R) :=
  ⟨fun pins s σ H R I h => h.elim (a.run pins s σ H R I) (b.run pins s σ H R I)⟩
theorem xi_l {w1 w2 : TI} (h : XI Z w1 δ Λ) : XI Z (fun σ H R => w1 σ H R ∨ w2 σ H R) δ Λ := fun B W M H σ R I q => .inl (h B W M H σ R I q)
theorem xi_r {w1 w2 : TI} (h : XI Z w2 δ Λ) : XI Z (fun σ H R => w1 σ H R ∨ w2 σ H R) δ Λ := fun B W M H σ R I q => .inr (h B W M H σ R I q)
end
end G
set_option Elab.async false
set_option linter.all false
set_option maxRecDepth 100000
set_option maxHeartbeats 4000000
namespace G
open PySem L2
section
variable {Z : Wd} {M H M' H' : Hp} {B : Bas} {W : List (Nat × Addr)} {σ σ' : St} {δ : List S}
variable {te ta tb tc tv : TE} {tt t u : TT} {Φ : D → List S → Prop} {Ψ : S → List S → Prop} {Ω : OD → List S → Prop} {Λ : List D → List S → Prop} {ts : TA}
variable {bs vs : List Nat} {P : Po}
/-! ### isinstance -/
def tyD : D → Option String
  | .non => some "NoneType" | .bl _ => some "bool" | .int _ => some "int" | .str _ => some "str" | .lst _ => some "list" | .tup _ => some "tuple"
  | _ => none
theorem At.tyx {v : V} {d : D} {n : String} (a : At Z M v d) (e : Ex M H) (h : tyD d = some n) : TyX Z.K H v (.type n) := by
  cases a with
  | non => cases h; exact .base .non
  | bl => cases h; exact .base (.bl _)
  | int => cases h; exact .base (.int _)
  | str => cases h; exact .base (.str _)
  | lst k l c => cases h; exact .base (.lst (e _ _ k))
  | tup k l c =>
    cases h
    rcases sqT_mono e k with k | ⟨o, its, n, k1, k2, _⟩
    · rcases k with k | ⟨o, k⟩
      · exact .base (.tup k)
      · exact .fTuple k
    · exact .kTuple k1 k2
  | _ => cases h
theorem xe_isi {m : String} (h : XE Z te δ fun d δ1 => ∃ n b, tyD d = some n ∧ kitB n m = some b ∧ Φ (.bl b) δ1) : XE Z (tCB (rIsi Z.K) (tCons te (tCons (tC (.ty m)) tNil))) δ Φ := XE.mk fun B W M H σ Q I q =>
  h.run I fun M1 H1 δ1 x a h1 e1 I1 at1 => by
    obtain ⟨n, b, e, k, f⟩ := h1
    exact ⟨x, .ty m, .type n, .type m, b, rfl, .ty m, at1.tyx I1.ex e, kit_ty k, q M1 H1 δ1 _ _ f e1 I1 .bl⟩
theorem kit_seq {K : PySem.W.Frag} {n : String} (h : n ∈ ["NoneType", "bool", "int", "str", "list", "tuple"]) : PySem.W.kitAny K (.type n) [.type "list", .type "tuple"] = some (n == "list" || n == "tuple") := by
  have two : ∀ {x y : Bool}, kitB n "list" = some x → kitB n "tuple" = some y → PySem.W.kitAny K (.type n) [.type "list", .type "tuple"] = some (x || y) := fun {x y} h1 h2 => by
    have h1 : PySem.W.kitOne K (.type n) (.type "list") = some x := kit_ty h1
    have h2 : PySem.W.kitOne K (.type n) (.type "tuple") = some y := kit_ty h2
    unfold PySem.W.kitAny
    rw [h1]
    cases x with
    | true => rfl
    | false =>
      show PySem.W.kitAny K (.type n) [.type "tuple"] = _
      unfold PySem.W.kitAny
      rw [h2]
      cases y <;> rfl
  simp only [List.mem_cons, List.not_mem_nil, or_false] at h
  rcases h with rfl | rfl | rfl | rfl | rfl | rfl
  · exact two (x := false) (y := false) (by decide +kernel) (by decide +kernel)
  · exact two (x := false) (y := false) (by decide +kernel) (by decide +kernel)
  · exact two (x := false) (y := false) (by decide +kernel) (by decide +kernel)
  · exact two (x := false) (y := false) (by decide +kernel) (by decide +kernel)
  · exact two (x := true) (y := false) (by decide +kernel) (by decide +kernel)
  · exact two (x := false) (y := true) (by decide +kernel) (by decide +kernel)
theorem xe_isiSeq (h : XE Z te δ fun d δ1 => ∃ n, tyD d = some n ∧ Φ (.bl (n == "list" || n == "tuple")) δ1) : XE Z (tCB (rIsiT Z.K) (tCons te (tCons (tTup (tCons (tC (.ty "list")) (tCons (tC (.ty "tuple")) tNil))) tNil))) δ Φ := XE.mk fun B W M H σ Q I q =>
  h.run I fun M1 H1 δ1 x a h1 e1 I1 at1 => by
    obtain ⟨n, e, f⟩ := h1
    have hn : n ∈ ["NoneType", "bool", "int", "str", "list", "tuple"] := by
      cases a <;> first | cases e | skip
      all_goals decide
    refine ⟨by show 2 ≤ sizeLine; decide, fun p hp => ?_⟩
    refine ⟨x, p, [.ty "list", .ty "tuple"], .type n, [.type "list", .type "tuple"], _, rfl, upd_same, .cons (.ty _) (.cons (.ty _) .nil), at1.tyx (I1.ex.tr (Ex.new hp)) e, kit_seq hn, ?_⟩
    exact q M1 _ δ1 _ _ f e1 (I1.other (I1.fresh hp) (I1.ex.free hp) (I1.newOwn hp)) .bl
theorem xe_isiC {C : Addr} (h : XE Z te δ fun d δ1 => ∃ c ds, d = .obj c ds ∧ (Z.cl c).C = C ∧ Φ (.bl true) δ1) : XE Z (tCB (fun xs H Q => ∃ a dx fs, xs = [.ref a, .ref C] ∧ H a = some (.ins C dx fs) ∧ Q (.bl true) H) (tCons te (tCons (tC (.ref C)) tNil))) δ Φ := XE.mk fun B W M H σ Q I q =>
  h.run I fun M1 H1 δ1 x a h1 e1 I1 at1 => by
    obtain ⟨c, ds, rfl, hC, f⟩ := h1
    subst hC
    cases at1 with
    | obj k l l2 c => exact ⟨_, _, _, rfl, I1.ex _ _ k, q M1 H1 δ1 _ _ f e1 I1 .bl⟩
/-! ### a < b < c -/
theorem xe_chain {g g' : Int → Int → Bool} (h : XE Z ta δ fun a δ1 => XE Z tb δ1 fun b δ2 => ∃ i j, a = .int i ∧ b = .int j ∧ if g i j = true then XE Z tc δ2 (fun c δ3 => ∃ k, c = .int k ∧ Φ (.bl (g' j k)) δ3) else Φ (.bl false) δ2) :
    XE Z (tChain (rI0 fun i j => .bl (g i j)) (rI0 fun i j => .bl (g' i j)) ta tb tc) δ Φ := XE.mk fun B W M H σ Q I q =>
  h.run I fun M1 H1 δ1 x a h1 e1 I1 at1 => XE.run h1 I1 fun M2 H2 δ2 y b h2 e2 I2 at2 => by
    obtain ⟨i, j, rfl, rfl, f⟩ := h2
    cases at1; cases at2
    refine ⟨i, j, rfl, rfl, g i j, rfl, ?_⟩
    cases e : g i j with
    | true =>
      rw [e, if_pos rfl] at f
      rw [if_pos rfl]
      exact XE.run f I2 fun M3 H3 δ3 z c h3 e3 I3' at3 => by
        obtain ⟨k, rfl, f⟩ := h3
        cases at3
        exact ⟨j, k, rfl, rfl, q M3 H3 δ3 _ _ f (e1.tr (e2.tr e3)) I3' .bl⟩
    | false =>
      rw [e, if_neg Bool.false_ne_true] at f
      rw [if_neg Bool.false_ne_true]
      exact q M2 H2 δ2 _ _ f (e1.tr e2) I2 .bl
/-! ### an own list compared -/
theorem xe_neO {i : Nat} {xs : List D} (hv : δ[i]? = some (.own (.lst xs))) (h : XE Z tb δ fun b δ2 => δ2[i]? = some (.own (.lst xs)) ∧ plaL xs = true ∧ pla b = true ∧ SeqAt.shaped (py (.lst xs)) = true ∧ SeqAt.shaped (py b) = true ∧ Φ (.bl (!PyData.eqv (py (.lst xs)) (py b))) δ2) : XE Z (tOp (rNeD Z.K) (tVar i) tb) δ Φ := XE.mk fun B W M H σ Q I q => by
  obtain ⟨o, e, p, ho, rfl, _⟩ := I.sl i _ hv
  refine ⟨_, e, h.run I fun M2 H2 δ2 y b h2 e2 I2 at2 => ?_⟩
  obtain ⟨hx, pa, pb, sa, sb, f⟩ := h2
  obtain ⟨o', e', p', ho', rfl, hp', hy', _⟩ := I2.sl i _ hx
  rw [e] at e'; cases e'
  obtain ⟨us, rfl, al⟩ := hy'.lstI
  exact ⟨_, _, .lst (SqL.of hp') (AtL.dp _ _ al I2.ex pa), At.dp b y at2 I2.ex pb, sa, sb, q M2 H2 δ2 _ _ f e2 I2 .bl⟩
/-- equal texts in a row -/
theorem eqv_strs : ∀ (xs ys : List Str), PyData.eqvAll (pyL (xs.map .str)) (pyL (ys.map .str)) = decide (xs = ys)
  | [], [] => rfl
  | [], y :: ys => by simp [pyL, PyData.eqvAll]
  | x :: xs, [] => by simp [pyL, PyData.eqvAll]
  | x :: xs, y :: ys => by
    show (PyData.eqv (.str x) (.str y) && PyData.eqvAll (pyL (xs.map .str)) (pyL (ys.map .str))) = _
    rw [eqv_strs xs ys, show PyData.eqv (.str x) (.str y) = (x == y) from by simp [PyData.eqv]]
    rw [Bool.eq_iff_iff]
    simp
theorem pla_strs : ∀ (xs : List Str), plaL (xs.map .str) = true
  | [] => rfl
  | x :: xs => by show (true && plaL (xs.map .str)) = true; rw [pla_strs xs]; rfl
end
end G
set_option Elab.async false
set_option linter.all false
set_option maxRecDepth 100000
set_option maxHeartbeats 4000000
namespace G
open PySem L2
section
variable {Z : Wd} {M H M' H' : Hp} {B : Bas} {W : List (Nat × Addr)} {σ σ' : St} {δ : List S}
variable {te ta tb tc tv : TE} {tt tt1 t u : TT} {Φ : D → List S → Prop} {Ψ : S → List S → Prop} {Ω : OD → List S → Prop} {Λ : List D → List S → Prop} {ts : TA}
variable {bs vs vs1 : List Nat} {P : Po}
/-- a turn of a comprehension: from where it starts, and back -/
theorem I3.turn {A : Addr} {av : List V} (I : I3 Z B W M H σ δ) (hA : H A = some (.lst av)) (hAm : M A = none) (hAo : ∀ j, ¬ Own σ δ j A) (hno : ∀ v ∈ vs, δ[v]? = some .no) :
    ∃ W2 : List (Nat × Addr), (∀ v ∈ vs, v ∉ W2.map (·.1)) ∧ I3 Z ⟨H, M⟩ W2 M H (wipe σ vs) δ ∧ ∀ M4 H4 σ4 δ4, Ex M M4 → (∀ j, j ∉ vs → σ4[j]? = (wipe σ vs)[j]?) → σ4.length = (wipe σ vs).length → I3 Z ⟨H, M⟩ W2 M4 H4 σ4 δ4 →
      (I3 Z B W M4 H4 σ (wipeS δ4 vs) ∧ H4 A = some (.lst av) ∧ M4 A = none ∧ (∀ j, ¬ Own σ (wipeS δ4 vs) j A) ∧ ∀ v ∈ vs, (wipeS δ4 vs)[v]? = some .no) ∧ I3 Z B W M4 H4 σ4 δ4 ∧ (∀ j, ¬ Own σ4 δ4 j A) ∧ ∀ v p, v ∈ vs → (v, p) ∉ W := by
  have hvlen : ∀ v ∈ vs, v < δ.length := fun v hv => (List.getElem?_eq_some_iff.mp (hno v hv)).1
  have hWv : ∀ i p, i ∈ vs → (i, p) ∉ W := fun i p hv hw => by
    exact Own.not (hno i hv) hol_no (I.bor i p hw)
  have Iw : I3 Z B W M H (wipe σ vs) δ := I.swap (fun j hj => wipe_out hj) (wipe_length _ _) (fun _ _ => rfl) (fun j hj _ => hno j hj) rfl hWv
  have hbs : ∀ v ∈ vs, v ∉ (owns 0 (wipe σ vs) δ).map (·.1) := fun v hv hm => by
    obtain ⟨⟨i, p⟩, hmem, rfl⟩ := List.mem_map.mp hm
    exact Own.not (hno _ hv) hol_no (mem_owns.mp hmem)
  have ownEq : ∀ i p, (i, p) ∈ owns 0 (wipe σ vs) δ ↔ Own σ δ i p := fun i p => by
    rw [mem_owns]
    constructor
    · intro o
      have hi' : i ∉ vs := fun hv => Own.not (hno i hv) hol_no o
      exact o.same (wipe_out hi').symm rfl
    · intro o
      have hi' : i ∉ vs := fun hv => Own.not (hno i hv) hol_no o
      exact o.same (wipe_out hi') rfl
  refine ⟨_, hbs, Iw.rebase, fun M4 H4 σ4 δ4 e4 k4 l4 J4 => ?_⟩
  have hl4 : δ4.length = δ.length := by rw [← J4.len, l4, wipe_length, I.len]
  have J5 : I3 Z ⟨H, M⟩ (owns 0 (wipe σ vs) δ) M4 H4 σ (wipeS δ4 vs) := J4.swap (vs := vs) (fun j hj => by rw [k4 j hj, wipe_out hj]) (by rw [l4, wipe_length]) (fun j hj => wipeS_out hj) (fun j hj hlt => wipeS_in (by rw [wipeS_len] at hlt; exact hlt) hj) (wipeS_len _) fun i p hv hw => hbs i hv (List.mem_map_of_mem (f := (·.1)) hw)
  obtain ⟨z1, z2, z3⟩ := J5.stays (a := A) hA hAm (fun i hi => hAo i ((ownEq i A).mp hi)) (fun _ e => nomatch e)
  obtain ⟨_, y2, _⟩ := J4.stays (a := A) hA hAm (fun i hi => hAo i ((ownEq i A).mp hi)) (fun _ e => nomatch e)
  exact ⟨⟨I.back ownEq J5, z1, z3, z2, fun v hv => wipeS_in (by rw [hl4]; exact hvlen v hv) hv⟩, I.back ownEq J4, y2, hWv⟩
/-- a comprehension of two clauses -/
theorem xo_lc2 {g g1 : TG} {wi wi1 : TI} (h : XI Z wi δ fun xs δ0 => (∀ v ∈ vs, δ0[v]? = some .no) ∧ (∀ v ∈ vs1, v ∈ vs) ∧ xs.length ≤ 1000 ∧ ∃ J : Nat → List D → List S → Prop, J 0 [] δ0 ∧
      (∀ i d acc δ1 bs, (∀ v ∈ vs, v ∉ bs) → xs[i]? = some d → J i acc δ1 → XG Z vs bs g d δ1 fun δ2 => XT Z tt δ2 fun b δ3 => if b = true then XI Z wi1 δ3 fun zs δ4 => zs.length ≤ 1000 ∧ (∀ v ∈ vs1, δ4[v]? = some .no) ∧ ∃ Jn : Nat → List D → List S → Prop, Jn 0 acc δ4 ∧
        (∀ j e acc δ5 bs, (∀ v ∈ vs1, v ∉ bs) → zs[j]? = some e → Jn j acc δ5 → XG Z vs1 bs g1 e δ5 fun δ6 => XT Z tt1 δ6 fun b δ7 => if b = true then XE Z te δ7 fun y δ8 => Jn (j + 1) (acc ++ [y]) (wipeS δ8 vs1) else Jn (j + 1) acc (wipeS δ7 vs1)) ∧
        ∀ acc δ5, Jn zs.length acc δ5 → J (i + 1) acc (wipeS δ5 vs)
        else J (i + 1) acc (wipeS δ3 vs)) ∧
      ∀ acc δ1, J xs.length acc δ1 → Ω (.lst acc) δ1) : XO Z (tLc2 wi g tt wi1 g1 tt1 te vs vs1) δ Ω := XO.mk fun B W M H σ Q I q =>
  h B W M H σ _ I fun M' H1 δ' J xs f e1 I1 wd A hA => by
    obtain ⟨hno, hsub, hxs, Jv, j0, js, jn⟩ := f
    have hAB := I1.fresh hA
    have hAm := I1.ex.free hA
    refine ⟨fun i m H => m = xs.length - i ∧ i ≤ xs.length ∧ ∃ M'' δ'' acc av, Ex M' M'' ∧ I3 Z B W M'' H σ δ'' ∧ Jv i acc δ'' ∧ H A = some (.lst av) ∧ AtL Z M'' av acc ∧ M'' A = none ∧ (∀ j, ¬ Own σ δ'' j A) ∧ (∀ v ∈ vs, δ''[v]? = some .no) ∧ acc.length ≤ 1000 * i,
      ⟨_, rfl, Nat.zero_le _, M', δ', [], [], Ex.rfl', I1.other hAB hAm (I1.newOwn hA), j0, upd_same, .nil, hAm, I1.newOwn hA, hno, Nat.le_refl _⟩, ?_⟩
    rintro i m Ha ⟨rfl, hi, M'', δ'', acc, av, a, Ia, ja, hA1, al, hAm1, hAo, hno1, hacc⟩
    by_cases lt : i < xs.length
    · refine .inr ⟨wd.go i Ha lt (a.tr Ia.ex), fun Hn => i + 1 ≤ xs.length ∧ ∃ M'' δ'' acc av, Ex M' M'' ∧ I3 Z B W M'' Hn σ δ'' ∧ Jv (i + 1) acc δ'' ∧ Hn A = some (.lst av) ∧ AtL Z M'' av acc ∧ M'' A = none ∧ (∀ j, ¬ Own σ δ'' j A) ∧ (∀ v ∈ vs, δ''[v]? = some .no) ∧ acc.length ≤ 1000 * (i + 1),
        fun H' z => ⟨xs.length - (i + 1), by omega, rfl, z⟩, fun x Hb yl => ?_⟩
      obtain ⟨d, M2, hd, e2, I2, at2, k2, m2⟩ := YD.use (wd.walk.yields i Ha x Hb lt (a.tr Ia.ex) yl) a Ia
      obtain ⟨W2, hbs, Iw, fin⟩ := I2.turn (vs := vs) (k2 _ _ hA1) (m2 _ _ hA1 hAm1) hAo hno1
      refine js i d acc δ'' _ hbs hd ja _ _ M2 Hb (wipe σ vs) x _ rfl Iw at2 fun M3 H3 σ3 δ3 h3 e3 J3 k3 l3 => ⟨(wipe_eq k3 l3).trans (wipe_eq (fun j hj => wipe_out hj) (wipe_length _ _)), ?_⟩
      refine h3 _ _ M3 H3 σ3 _ J3 fun M4 H4 δ4 b h4 e4 J4 => ?_
      cases b with
      | false =>
        rw [if_neg Bool.false_ne_true] at h4 ⊢
        obtain ⟨⟨z1, z2, z3, z4, z5⟩, _⟩ := fin M4 H4 σ3 δ4 (e3.tr e4) k3 l3 J4
        exact ⟨lt, M4, _, _, _, a.tr (e2.tr (e3.tr e4)), z1, h4, z2, al.mono (e2.tr (e3.tr e4)), z3, z4, z5, by omega⟩
      | true =>
        rw [if_pos rfl] at h4 ⊢
        refine h4 _ _ M4 H4 σ3 _ J4 fun M5 H5 δ5 J1 zs h5 e5 J5 wd1 => ?_
        obtain ⟨hzs, hno5, Jn, n0, ns, nn⟩ := h5
        have ex5 : Ex M2 M5 := e3.tr (e4.tr e5)
        obtain ⟨⟨_, y2, y3, _, _⟩, yI, yO, hWv⟩ := fin M5 H5 σ3 δ5 ex5 k3 l3 J5
        refine ⟨fun j m H => m = zs.length - j ∧ j ≤ zs.length ∧ ∃ M6 δ6 acc6 av6, Ex M5 M6 ∧ I3 Z B W M6 H σ3 δ6 ∧ Jn j acc6 δ6 ∧ H A = some (.lst av6) ∧ AtL Z M6 av6 acc6 ∧ M6 A = none ∧ (∀ j, ¬ Own σ3 δ6 j A) ∧ (∀ v ∈ vs1, δ6[v]? = some .no) ∧ acc6.length ≤ 1000 * i + j ∧ δ6.length = δ''.length,
          ⟨_, rfl, Nat.zero_le _, M5, δ5, acc, av, Ex.rfl', yI, n0, y2, al.mono (e2.tr ex5), y3, yO, hno5, by omega, by rw [← yI.len, l3, wipe_length, I2.len]⟩, ?_⟩
        rintro j m Hc ⟨rfl, hj, M6, δ6, acc6, av6, a6, I6, j6, hA6, al6, hAm6, hAo6, hno6, hacc6, hlen6⟩
        by_cases ltj : j < zs.length
        · refine .inr ⟨wd1.go j Hc ltj (a6.tr I6.ex), fun Hn => j + 1 ≤ zs.length ∧ ∃ M6 δ6 acc6 av6, Ex M5 M6 ∧ I3 Z B W M6 Hn σ3 δ6 ∧ Jn (j + 1) acc6 δ6 ∧ Hn A = some (.lst av6) ∧ AtL Z M6 av6 acc6 ∧ M6 A = none ∧ (∀ j, ¬ Own σ3 δ6 j A) ∧ (∀ v ∈ vs1, δ6[v]? = some .no) ∧ acc6.length ≤ 1000 * i + (j + 1) ∧ δ6.length = δ''.length,
            fun H' z => ⟨zs.length - (j + 1), by omega, rfl, z⟩, fun x1 Hd yl1 => ?_⟩
          obtain ⟨d7, M7, hd7, e7, I7, at7, k7, m7⟩ := YD.use (wd1.walk.yields j Hc x1 Hd ltj (a6.tr I6.ex) yl1) a6 I6
          obtain ⟨W7, hbs7, Iw7, fin7⟩ := I7.turn (vs := vs1) (k7 _ _ hA6) (m7 _ _ hA6 hAm6) hAo6 hno6
          refine ns j d7 acc6 δ6 _ hbs7 hd7 j6 _ _ M7 Hd (wipe σ3 vs1) x1 _ rfl Iw7 at7 fun M8 H8 σ8 δ8 h8 e8 J8 k8 l8 => ⟨(wipe_eq k8 l8).trans (wipe_eq (fun j hj => wipe_out hj) (wipe_length _ _)), ?_⟩
          refine h8 _ _ M8 H8 σ8 _ J8 fun M9 H9 δ9 b h9 e9 J9 => ?_
          cases b with
          | false =>
            rw [if_neg Bool.false_ne_true] at h9 ⊢
            obtain ⟨⟨z1, z2, z3, z4, z5⟩, _⟩ := fin7 M9 H9 σ8 δ9 (e8.tr e9) k8 l8 J9
            exact ⟨ltj, M9, _, _, _, a6.tr (e7.tr (e8.tr e9)), z1, h9, z2, al6.mono (e7.tr (e8.tr e9)), z3, z4, z5, by omega, by rw [← z1.len, I7.len, hlen6]⟩
          | true =>
            rw [if_pos rfl] at h9 ⊢
            refine XE.run h9 J9 fun M0 H0 δ0 y' d' h0 e0 J0 at0 => ?_
            have ex0 : Ex M7 M0 := e8.tr (e9.tr e0)
            obtain ⟨⟨z1, z2, z3, z4, z5⟩, _⟩ := fin7 M0 H0 σ8 δ0 ex0 k8 l8 J0
            have hlen : av6.length < sizeLine := by
              have h1 := al6.len
              have h2 : av6.length < 1001001 := by
                have : 1000 * i ≤ 1000 * 1000 := Nat.mul_le_mul_left _ (by omega)
                omega
              exact Nat.lt_of_lt_of_le h2 (by decide)
            exact ⟨av6, z2, hlen, ltj, M0, _, _, _, a6.tr (e7.tr ex0), z1.other hAB z3 z4, h0, upd_same, AtL.app (al6.mono (e7.tr ex0)) (.one at0), z3, z4, z5, by rw [List.length_append, List.length_singleton]; omega, by rw [← z1.len, I7.len, hlen6]⟩
        · obtain rfl : j = zs.length := by omega
          have hvlen : ∀ v ∈ vs, v < δ6.length := fun v hv => by rw [hlen6]; exact (List.getElem?_eq_some_iff.mp (hno1 v hv)).1
          have Jb : I3 Z B W M6 Hc σ (wipeS δ6 vs) := I6.swap (vs := vs) (fun j hj => by rw [k3 j hj, wipe_out hj]) (by rw [l3, wipe_length]) (fun j hj => wipeS_out hj) (fun j hj hlt => wipeS_in (by rw [wipeS_len] at hlt; exact hlt) hj) (wipeS_len _) fun i p hv => hWv i p hv
          refine .inl ⟨wd1.stop Hc (a6.tr I6.ex), lt, M6, wipeS δ6 vs, acc6, av6, a.tr (e2.tr (ex5.tr a6)), Jb, nn _ _ j6, hA6, al6, hAm6, fun j o => ?_, fun v hv => wipeS_in (hvlen v hv) hv, by omega⟩
          have hj' : j ∉ vs := fun hv => Own.not (wipeS_in (hvlen j hv) hv) hol_no o
          exact hAo6 j (o.same (by rw [k3 j hj', wipe_out hj']) (wipeS_out hj').symm)
    · obtain rfl : i = xs.length := by omega
      exact .inl ⟨wd.stop Ha (a.tr Ia.ex), q M'' Ha δ'' A _ _ (jn _ _ ja) (e1.tr a) Ia hA1 al hAm1 hAB hAo⟩
/-! ### int, abs, min, max, str, a power -/
theorem xe_callInt (h : XE Z te δ fun d δ1 => ∃ i, d = .int i ∧ Φ (.int i) δ1) : XE Z (tCB (fun xs H Q => (∃ i, xs = [.int i] ∧ Q (.int i) H) ∨ ∃ k, xs = [.bl k] ∧ Q (.int (if k then 1 else 0)) H) (tCons te tNil)) δ Φ := XE.mk fun B W M H σ Q I q =>
  h.run I fun M1 H1 δ1 x a h1 e1 I1 at1 => by
    obtain ⟨i, rfl, f⟩ := h1
    cases at1
    exact .inl ⟨i, rfl, q M1 H1 δ1 _ _ f e1 I1 .int⟩
theorem xe_callIntB (h : XE Z te δ fun d δ1 => ∃ b, d = .bl b ∧ Φ (.int (if b then 1 else 0)) δ1) : XE Z (tCB (fun xs H Q => (∃ i, xs = [.int i] ∧ Q (.int i) H) ∨ ∃ k, xs = [.bl k] ∧ Q (.int (if k then 1 else 0)) H) (tCons te tNil)) δ Φ := XE.mk fun B W M H σ Q I q =>
  h.run I fun M1 H1 δ1 x a h1 e1 I1 at1 => by
    obtain ⟨i, rfl, f⟩ := h1
    cases at1
    exact .inr ⟨i, rfl, q M1 H1 δ1 _ _ f e1 I1 .int⟩
theorem xe_abs (h : XE Z te δ fun d δ1 => ∃ i : Int, d = .int i ∧ Φ (.int (if i < 0 then -i else i)) δ1) : XE Z (tCB (fun xs H Q => ∃ i : Int, xs = [.int i] ∧ Q (.int (if i < 0 then -i else i)) H) (tCons te tNil)) δ Φ := XE.mk fun B W M H σ Q I q =>
  h.run I fun M1 H1 δ1 x a h1 e1 I1 at1 => by
    obtain ⟨i, rfl, f⟩ := h1
    cases at1
    exact ⟨i, rfl, q M1 H1 δ1 _ _ f e1 I1 .int⟩
theorem xe_max2 (h : XE Z ta δ fun d δ1 => XE Z tb δ1 fun b δ2 => ∃ i j : Int, d = .int i ∧ b = .int j ∧ Φ (.int (if j > i then j else i)) δ2) : XE Z (tCB (fun xs H Q => ∃ i j : Int, xs = [.int i, .int j] ∧ Q (.int (if j > i then j else i)) H) (tCons ta (tCons tb tNil))) δ Φ := XE.mk fun B W M H σ Q I q =>
  h.run I fun M1 H1 δ1 x a h1 e1 I1 at1 => XE.run h1 I1 fun M2 H2 δ2 y b h2 e2 I2 at2 => by
    obtain ⟨i, j, rfl, rfl, f⟩ := h2
    cases at1; cases at2
    exact ⟨i, j, rfl, q M2 H2 δ2 _ _ f (e1.tr e2) I2 .int⟩
theorem xe_min2 (h : XE Z ta δ fun d δ1 => XE Z tb δ1 fun b δ2 => ∃ i j : Int, d = .int i ∧ b = .int j ∧ Φ (.int (if j < i then j else i)) δ2) : XE Z (tCB (fun xs H Q => ∃ i j : Int, xs = [.int i, .int j] ∧ Q (.int (if j < i then j else i)) H) (tCons ta (tCons tb tNil))) δ Φ := XE.mk fun B W M H σ Q I q =>
  h.run I fun M1 H1 δ1 x a h1 e1 I1 at1 => XE.run h1 I1 fun M2 H2 δ2 y b h2 e2 I2 at2 => by
    obtain ⟨i, j, rfl, rfl, f⟩ := h2
    cases at1; cases at2
    exact ⟨i, j, rfl, q M2 H2 δ2 _ _ f (e1.tr e2) I2 .int⟩
theorem xe_strS (h : XE Z te δ fun d δ1 => ∃ s, d = .str s ∧ Φ (.str s) δ1) : XE Z (tCB (fun xs H Q => ∃ a, xs = [.str a] ∧ Q (.str a) H) (tCons te tNil)) δ Φ := XE.mk fun B W M H σ Q I q =>
  h.run I fun M1 H1 δ1 x a h1 e1 I1 at1 => by
    obtain ⟨i, rfl, f⟩ := h1
    cases at1
    exact ⟨i, rfl, q M1 H1 δ1 _ _ f e1 I1 .str⟩
theorem ite_b {b : Bool} {A C : Prop} (h1 : b = true → A) (h2 : b = false → C) : if b = true then A else C := by
  cases b with
  | true => rw [if_pos rfl]; exact h1 rfl
  | false => rw [if_neg Bool.false_ne_true]; exact h2 rfl
theorem xs_item0 {i : Nat} {bs : List Nat} {P : Po} (h : XE Z te δ fun d δ1 => ∃ y, δ1[i]? = some (.own y) ∧ XE Z ta δ1 fun b δ2 => ∃ xs k, δ2[i]? = some (.own (.lst xs)) ∧ b = .int (k : Nat) ∧ k < xs.length ∧ P.N (δ2.set i (.own (.lst (xs.set k d))))) : XS Z bs (tAsg te (gSub (tVar i) ta rSetL)) δ P := fun B W M H σ E hb I e =>
  h.run I fun M1 H1 δ1 x d h1 e1 I1 at1 => by
    obtain ⟨y, hy, h1⟩ := h1
    obtain ⟨o, e0, p, ho, rfl, _⟩ := I1.sl i _ hy
    refine ⟨_, e0, XE.run h1 I1 fun M2 H2 δ2 y b h2 e2 I2 at2 => ?_⟩
    obtain ⟨xs, k, hx, rfl, hk, f⟩ := h2
    cases at2
    obtain ⟨o', e', p', ho', rfl, hp', hy', _⟩ := I2.sl i _ hx
    rw [e0] at e'; cases e'
    obtain ⟨us, rfl, a⟩ := hy'.lstI
    refine ⟨_, us, (k : Int), k, rfl, rfl, hp', ?_, e.nx _ _ _ _ f (e1.tr e2) (I2.write e0 hx (ho := .lst _) (y' := .lst _) (a.set k (at1.mono e2)))⟩
    unfold ixN
    rw [if_pos (by omega), if_pos (by rw [a.len]; omega)]; simp
end
end G
set_option Elab.async false
set_option maxRecDepth 100000
set_option maxHeartbeats 4000000
namespace G
open PySem L2
variable {Z : Wd} {B : Bas} {W : List (Nat × Addr)} {M M' H H' : Hp} {σ σ' : St} {δ δ' : List S} {te ta tb : TE} {Φ : D → List S → Prop} {bs : List Nat} {P : Po}
theorem xe_callIntC {g : Int → Int → Bool} (h : XE Z (tOp (rI0 fun i j => .bl (g i j)) ta tb) δ fun d δ1 => ∃ b, d = .bl b ∧ Φ (.int (if b then 1 else 0)) δ1) : XE Z (tCB (fun xs H Q => (∃ i, xs = [.int i] ∧ Q (.int i) H) ∨ ∃ k, xs = [.bl k] ∧ Q (.int (if k then 1 else 0)) H) (tCons (tOp (rI0 fun i j => .bl (g i j)) ta tb) tNil)) δ Φ := xe_callIntB h
theorem abs_nn (v : Int) : 0 ≤ (if v < 0 then -v else v) := by split <;> omega
theorem atI_some {α : Type} {xs : List α} {k : Int} (h0 : 0 ≤ k) (h1 : k < xs.length) : ∃ v, atI xs k = some v := by
  refine ⟨xs[k.toNat]'(by omega), ?_⟩
  have := atI_nat (xs := xs) (j := k.toNat) (v := xs[k.toNat]'(by omega)) (by simp)
  rwa [show ((k.toNat : Nat) : Int) = k by omega] at this
theorem perm_erase {α : Type} : ∀ {l : List α} {k : Nat} (h : k < l.length), ([l[k]] ++ l.eraseIdx k).Perm l
  | x :: l, 0, _ => by simp
  | x :: l, k + 1, h => by
    have := perm_erase (l := l) (k := k) (by simpa using h)
    simp only [List.getElem_cons_succ, List.eraseIdx_cons_succ, List.cons_append, List.nil_append] at this ⊢
    exact (List.Perm.swap _ _ _).trans (this.cons x)
theorem XT.imp {tt : TT} {Θ Θ' : Bool → List S → Prop} (h : XT Z tt δ Θ) (k : ∀ b δ', Θ b δ' → Θ' b δ') : XT Z tt δ Θ' := fun B W M H σ Q I q => h B W M H σ Q I fun M' H' δ' b a => q M' H' δ' b (k _ _ a)
theorem wipe_set {v : Nat} {d : D} (h : δ[v]? = some .no) : wipeS (δ.set v (.d d)) [v] = δ := by
  unfold wipeS wipeS
  rw [List.set_set]
  exact List.ext_getElem? fun j => by
    rw [List.getElem?_set]
    split
    · rename_i e
      subst e
      rw [h]
      have : v < δ.length := by
        rcases Nat.lt_or_ge v δ.length with q | q
        · exact q
        · rw [List.getElem?_eq_none q] at h; cases h
      simp [this]
    · rfl
theorem xe_neg (h : XE Z te δ fun d δ1 => ∃ i, d = .int i ∧ Φ (.int (-i)) δ1) : XE Z (tUn (rU fun i => .int (-i)) te) δ Φ := XE.mk fun B W M H σ Q I q =>
  h.run I fun M1 H1 δ1 x a h1 e1 I1 at1 => by
    obtain ⟨i, rfl, f⟩ := h1
    cases at1
    exact ⟨i, rfl, q M1 H1 δ1 _ _ f e1 I1 .int⟩
theorem lay_strs : ∀ {ns : List Str}, (∀ n ∈ ns, PyData.strOk n = true) → PyData.canLayAll0 (pyL (ns.map .str)) = true ∧ PyData.depthAll (pyL (ns.map .str)) = 0
  | [], _ => ⟨rfl, rfl⟩
  | n :: ns, h => by
    have := lay_strs (ns := ns) fun m hm => h m (List.mem_cons_of_mem _ hm)
    refine ⟨?_, ?_⟩
    · show PyData.canLayAll0 (PyData.str n :: pyL (ns.map .str)) = true
      rw [PyData.canLayAll0.eq_2, PyData.canLay0.eq_4, h n (by simp), this.1]; rfl
    · show PyData.depthAll (PyData.str n :: pyL (ns.map .str)) = 0
      rw [PyData.depthAll.eq_2, this.2]; rfl
theorem shp_lst {ns : List Str} (h : ∀ n ∈ ns, PyData.strOk n = true) : SeqAt.shaped (py (.lst (ns.map .str))) = true := by
  have := lay_strs h
  show (PyData.canLay0 (PyData.list (pyL (ns.map .str))) && decide ((PyData.list (pyL (ns.map .str))).depth ≤ 64)) = true
  rw [PyData.canLay0.eq_5, this.1]
  unfold PyData.depth
  rw [this.2]; decide
theorem eqv_lst (xs ys : List Str) : PyData.eqv (py (.lst (xs.map .str))) (py (.lst (ys.map .str))) = decide (xs = ys) := by
  rw [← eqv_strs xs ys]; rfl
theorem blk_lst {ts : TA} {i : Nat} (h : XS Z bs (tAsg (tLst ts) (gName i)) δ P) : XS Z bs (tAsg (tLst ts) (gName i)) δ P := h
theorem blk_lc {wi : TI} {g : TG} {tt : TT} {vs : List Nat} {i : Nat} (h : XS Z bs (tAsg (tLc wi g tt te vs) (gName i)) δ P) : XS Z bs (tAsg (tLc wi g tt te vs) (gName i)) δ P := h
end G
namespace G
open PySem L2
theorem perm_map {α β : Type} {f : α → β} {ys : List β} {xs : List α} (h : ys.Perm (xs.map f)) : ∃ ns : List α, ys = ns.map f ∧ ns.Perm xs := by
  generalize e : xs.map f = zs at h
  induction h generalizing xs with
  | nil => cases xs with
    | nil => exact ⟨[], rfl, .refl _⟩
    | cons x xs => cases e
  | cons x h ih => 
    cases xs with
    | nil => cases e
    | cons z xs =>
      simp only [List.map_cons, List.cons.injEq] at e
      obtain ⟨ns, h1, h2⟩ := ih e.2
      exact ⟨z :: ns, by rw [h1, ← e.1]; rfl, h2.cons z⟩
  | swap x y l =>
    rcases xs with _ | ⟨u, _ | ⟨v, xs⟩⟩
    · cases e
    · simp at e
    · simp only [List.map_cons, List.cons.injEq] at e
      obtain ⟨h1, h2, h3⟩ := e
      exact ⟨v :: u :: xs, by rw [← h1, ← h2, ← h3]; rfl, List.Perm.swap _ _ _⟩
  | trans h1 h2 ih1 ih2 =>
    obtain ⟨ms, rfl, hm⟩ := ih2 e
    obtain ⟨ns, rfl, hn⟩ := ih1 rfl
    exact ⟨ns, rfl, hn.trans hm⟩
theorem cut_to {α : Type} {xs : List α} {b : Int} (h : 0 ≤ b) : cut xs none (some b) = xs.take b.toNat := by
  unfold cut HT.sIx
  simp
  rw [if_neg (by omega)]
  omega
end G
theorem G.on_d {Φ : G.D → List G.S → Prop} {x : G.D} {δ : List G.S} (h : Φ x δ) : G.onD Φ (.d x) δ := h
theorem G.on_o {Φ : G.OD → List G.S → Prop} {x : G.OD} {δ : List G.S} (h : Φ x δ) : G.onO Φ (.own x) δ := h
theorem G.joinE {Z : G.Wd} {te : L2.TE} {δ : List G.S} {Φ : G.D → List G.S → Prop} {α : Type} (ok : α → Prop) (dd : α → G.D) (st : α → List G.S) (f : (∀ c, ok c → Φ (dd c) (st c)) → G.XE Z te δ Φ) (h : ∀ c, ok c → Φ (dd c) (st c)) : G.XE Z te δ Φ := f h
namespace G
open PySem L2
theorem xo_fg {Z : Wd} {δ : List S} {te : TE} {α : Type} {v : Nat} {wi : TI} {tt : TT} {Ω : OD → List S → Prop} {g f : α → D} {p : α → Bool} (h : XI Z wi δ fun xs δ0 => ∃ as : List α, xs = as.map g ∧ δ0[v]? = some .no ∧ as.length ≤ 1000000 ∧ (∀ d ∈ as, XT Z tt (δ0.set v (.d (g d))) fun b δ3 => b = p d ∧ δ3 = δ0.set v (.d (g d)) ∧ (b = true → XE Z te δ3 fun y δ4 => y = f d ∧ δ4 = δ3)) ∧ Ω (.lst ((as.filter p).map f)) δ0) :
    XO Z (tLc wi (gName v) tt te [v]) δ Ω := xo_lc fun B W M H σ Q I q => h B W M H σ Q I fun M' H' δ' J xs a => q M' H' δ' J xs (by
  obtain ⟨as, rfl, h1, h2, h3, h4⟩ := a
  refine ⟨fun w hw => by simp at hw; exact hw ▸ h1, by simpa using h2, fun i acc δ1 => acc = ((as.take i).filter p).map f ∧ δ1 = δ', ⟨rfl, rfl⟩, ?_, ?_⟩
  · rintro i d acc δ1 bs hb hi ⟨rfl, rfl⟩
    obtain ⟨u, hu, rfl⟩ : ∃ u, as[i]? = some u ∧ g u = d := by simpa using hi
    refine xg_name (List.mem_singleton.mpr rfl) (hb v (List.mem_singleton.mpr rfl)) ?_
    have t : as.take (i + 1) = as.take i ++ [u] := by rw [List.take_add_one, hu]; rfl
    refine XT.imp (h3 u (List.mem_of_getElem? hu)) fun b δ3 ⟨e1, e2, e3⟩ => ?_
    subst e1; subst e2
    split
    · rename_i hp
      refine XR.imp (e3 hp) fun s δ4 k => ?_
      cases s with
      | d y => exact ⟨by rw [t, k.1]; simp [hp], by rw [k.2]; exact wipe_set h1⟩
      | _ => exact k.elim
    · rename_i hp
      exact ⟨by rw [t]; simp [hp], wipe_set h1⟩
  · rintro acc δ1 ⟨rfl, rfl⟩
    rw [List.length_map, List.take_length]
    exact h4)
end G
theorem G.pe_gc {X : L2.Cx} {x : PySem.Str} {v : L2.V} {pos : PySem.Pos} (hg : L2.Gl X x) (h : ∃ u, X.mg x = some u ∧ L2.RelV v u) (hd : (x == PySem.Str.ofString "__debug__") = false := by decide) : L2.PE X (.Name x pos) (L2.tC v) := by
  obtain ⟨u, hm, r⟩ := h
  exact L2.pe_glob hg hm r hd
namespace G
open PySem L2
theorem if_tt {A C : Prop} (h : A) : if true = true then A else C := h
theorem if_ff {A C : Prop} (h : C) : if false = true then A else C := h
theorem if_nt {A C : Prop} (h : C) : if (!true) = true then A else C := h
theorem if_nf {A C : Prop} (h : A) : if (!false) = true then A else C := h
theorem scs_strs' : ∀ (ws : List Str), scs (ws.map .str) = some (ws.map V.str)
  | [] => rfl
  | w :: ws => by
    have := scs_strs' ws
    simp only [List.map_cons]
    unfold scs
    rw [this]; rfl
section
variable {Z : Wd} {ta tb : TE} {δ : List S} {Φ : D → List S → Prop}
theorem xe_inT (h : XE Z ta δ fun a δ1 => XE Z tb δ1 fun b δ2 => ∃ (n : Str) (ws : List Str), a = .str n ∧ (b = .lst (ws.map .str) ∨ b = .tup (ws.map .str)) ∧ Φ (.bl (decide (n ∈ ws))) δ2) : XE Z (tOp (rIn Z.K false) ta tb) δ Φ :=
  xe_in fun B W M H σ Q I q => h B W M H σ Q I fun M1 H1 δ1 v s a => q M1 H1 δ1 v s (by
    cases s with
    | d x => 
      intro B2 W2 M2 H2 σ2 Q2 I2 q2
      refine a B2 W2 M2 H2 σ2 Q2 I2 fun M3 H3 δ3 v3 s3 a3 => q2 M3 H3 δ3 v3 s3 ?_
      cases s3 with
      | d y =>
        obtain ⟨n, ws, rfl, hb, f⟩ := a3
        refine ⟨.str n, ws.map .str, ws.map V.str, rfl, hb, scs_strs' ws, ?_⟩
        simp only [Bool.false_eq_true, if_false, inV_strs]
        exact f
      | no => exact a3
      | own y => exact a3
      | deal _ _ _ => exact a3
    | no => exact a
    | own y => exact a
    | deal _ _ _ => exact a)
theorem xe_ninT (h : XE Z ta δ fun a δ1 => XE Z tb δ1 fun b δ2 => ∃ (n : Str) (ws : List Str), a = .str n ∧ (b = .lst (ws.map .str) ∨ b = .tup (ws.map .str)) ∧ Φ (.bl (!decide (n ∈ ws))) δ2) : XE Z (tOp (rIn Z.K true) ta tb) δ Φ :=
  xe_in fun B W M H σ Q I q => h B W M H σ Q I fun M1 H1 δ1 v s a => q M1 H1 δ1 v s (by
    cases s with
    | d x => 
      intro B2 W2 M2 H2 σ2 Q2 I2 q2
      refine a B2 W2 M2 H2 σ2 Q2 I2 fun M3 H3 δ3 v3 s3 a3 => q2 M3 H3 δ3 v3 s3 ?_
      cases s3 with
      | d y =>
        obtain ⟨n, ws, rfl, hb, f⟩ := a3
        refine ⟨.str n, ws.map .str, ws.map V.str, rfl, hb, scs_strs' ws, ?_⟩
        simp only [if_true, inV_strs]
        exact f
      | no => exact a3
      | own y => exact a3
      | deal _ _ _ => exact a3
    | no => exact a
    | own y => exact a
    | deal _ _ _ => exact a)
end
end G
theorem G.pe_fldK {X : L2.Cx} {K : PySem.W.Frag} {e : PySem.Expr} {f : PySem.Str} {pos : PySem.Pos} {ta : L2.TE} (hK : X.K = K) (h : L2.PE X e ta) (hb : PySem.attributeBase e f X.env (PySem.eval e X.env) = PySem.eval e X.env) : L2.PE X (e.Attribute f pos) (L2.tFld K ta f) := hK ▸ L2.pe_fld h hb
theorem G.pi_tupK {X : L2.Cx} {K : PySem.W.Frag} {tg l : PySem.Expr} {tl : L2.TE} (hK : X.K = K) (h : L2.PE X l tl) : L2.PI X tg l (L2.iTup K tl) := hK ▸ L2.pi_tup h
theorem G.pa_starK {X : L2.Cx} {K : PySem.W.Frag} {e : PySem.Expr} {es : List PySem.Expr} {te : L2.TE} {t : L2.TA} {p : PySem.Pos} (hK : X.K = K) (h : L2.PE X e te) (h2 : L2.PA X es t) (h3 : PySem.starEach (e.Starred p :: es) X.env = (true, PySem.eval e X.env) :: PySem.starEach es X.env := by rfl) : L2.PA X (e.Starred p :: es) (StX.tStar K te t) := hK ▸ StX.pa_star h h2 h3
namespace G
open PySem L2
section
variable {Z : Wd} {δ : List S} {Λ : List D → List S → Prop}
theorem xi_enumV {i : Nat} {d : D} {xs : List D} (h : δ[i]? = some (.d d)) (hd : d = .lst xs ∨ d = .tup xs) (k : Λ (enumD xs) δ) : XI Z (fun σ H R => iEnum Z.K (tCons (tVar i) tNil) σ H R ∨ GE.iEnumT Z.K (tCons (tVar i) tNil) σ H R) δ Λ := by
  rcases hd with rfl | rfl
  · exact xi_l (xi_enum (xe_var h ⟨_, rfl, k⟩))
  · exact xi_r (xi_enumT (xe_var h ⟨_, rfl, k⟩))
theorem xi_seqV {i : Nat} {d : D} {xs : List D} (h : δ[i]? = some (.d d)) (hd : d = .lst xs ∨ d = .tup xs) (k : Λ xs δ) : XI Z (fun σ H R => iList Z.K (tVar i) σ H R ∨ iTup Z.K (tVar i) σ H R) δ Λ := by
  rcases hd with rfl | rfl
  · exact xi_l (xi_list (xe_var h ⟨_, .inl rfl, k⟩))
  · exact xi_r (xi_tup (xe_var h ⟨_, rfl, k⟩))
end
end G
theorem G.filter_tt {α : Type} (xs : List α) : xs.filter (fun _ => true) = xs := List.filter_eq_self.mpr fun _ _ => rfl
set_option Elab.async false
set_option linter.all false
set_option maxRecDepth 100000
set_option maxHeartbeats 4000000
namespace GS
open PySem PySem.Spec PyProof.Rows L2
open PySem.Froz (SD sObj tailTx addTx TxOk)
section
variable {X : Cx}
/-- len(set) -/
def rLenSet (X : Cx) : List V → Hp → VK → Prop := fun vs H Q => ∃ (a : Addr) (l : List Str), vs = [V.ref a] ∧ H a = some (SetHO X.prog X.w a l) ∧ l.length < scanBound ∧ Q (.int l.length) H
theorem cr_lenSet : CallR X (.builtin "len") (rLenSet X) := by
  intro pins s σ H vs us Q I r h
  obtain ⟨a, l, rfl, ha, hb, q⟩ := h
  obtain ⟨⟨xs, n, tb⟩, ho, F, L, nd⟩ := (I.hok a _ ha).1
  rw [Vals.ref1 r]
  have hsz : xs.size = l.length := F.sz
  have hb' : l.length < 2 ^ 63 := Nat.lt_trans hb (by decide)
  refine call_len_set (es := xs) (ep := n) (t := tb) ho ⟨rfl, rfl, rfl⟩ rfl F.fit (by omega) ⟨.int l.length, H, I.tok _, ⟨_, by rw [hsz]⟩, q⟩
def rIsX : R2 := fun x y H Q => y = .non ∧ Q (.bl (decide (x = .non))) H
def rNotX : R2 := fun x y H Q => y = .non ∧ Q (.bl (!decide (x = .non))) H
theorem op_notX : OpR X (compareOp .IsNot) rNotX := op_notN
def rIsB : R2 := fun x y H Q => ∃ a b, x = .bl a ∧ y = .bl b ∧ Q (.bl (decide (a = b))) H
def rNotB : R2 := fun x y H Q => ∃ a b, x = .bl a ∧ y = .bl b ∧ Q (.bl (!decide (a = b))) H
end
end GS
namespace G
open PySem L2
section
variable {Z : Wd} {δ : List S} {te ta tb : TE} {Φ : D → List S → Prop} {Ψ : S → List S → Prop} {X : Cx}
/-- len(set(xs)) -/
theorem xe_lenSet (hK : X.K = Z.K) (h : XE Z te δ fun d δ1 => ∃ xs : List Str, (d = .lst (xs.map .str) ∨ d = .tup (xs.map .str)) ∧ xs.length < 4000 ∧ ∀ l : List Str, (∀ x, x ∈ l ↔ x ∈ xs) → l.Nodup → Φ (.int l.length) δ1) :
    XE Z (tCB (GS.rLenSet X) (tCons (tCB (GS.rSet X) (tCons te tNil)) tNil)) δ Φ := XE.mk fun B W M H σ Q I q =>
  h.run I fun M1 H1 δ1 x a h1 e1 I1 at1 => by
    obtain ⟨xs, hd, hx, f⟩ := h1
    have sq : ∃ p, x = .ref p ∧ (SqL X.K H1 p (xs.map V.str) ∨ SqT X.K H1 p (xs.map V.str)) := by
      rcases hd with rfl | rfl
      · cases at1 with
        | lst k l c =>
          have := AtL.strs (Z := Z) (M := M1) ⟨l, c⟩
          subst this
          exact ⟨_, rfl, .inl (SqL.of (I1.ex _ _ k))⟩
      · cases at1 with
        | tup k l c =>
          have := AtL.strs (Z := Z) (M := M1) ⟨l, c⟩
          subst this
          exact ⟨_, rfl, .inr (hK ▸ sqT_mono I1.ex k)⟩
    obtain ⟨p, rfl, sq⟩ := sq
    refine ⟨p, xs, rfl, sq, Nat.lt_of_le_of_lt (Nat.succ_le_of_lt hx) (by decide), fun a l1 ha m1 m2 nd => ?_⟩
    have hm := I1.ex.free ha
    have I2 : I3 Z B W M1 (upd H1 a (GS.SetHO X.prog X.w a l1)) σ δ1 := I1.other (I1.fresh ha) hm (I1.newOwn ha)
    refine ⟨a, l1, rfl, upd_same, Nat.lt_of_le_of_lt (Nat.le_trans m2 (Nat.le_of_lt hx)) (by decide), ?_⟩
    exact q M1 _ δ1 _ _ (f l1 m1 nd) e1 I2 .int
/-! ### is -/
def isNon : D → Bool | .non => true | _ => false
theorem xe_isN (h : XE Z ta δ fun a δ1 => Φ (.bl (isNon a)) δ1) : XE Z (tOp GS.rIsX ta (tC .non)) δ Φ := XE.mk fun B W M H σ Q I q =>
  h.run I fun M1 H1 δ1 x a h1 e1 I1 at1 => And.intro rfl (by
    have : decide (x = V.non) = isNon a := by cases at1 <;> simp [isNon]
    rw [this]
    exact q M1 H1 δ1 _ _ h1 e1 I1 .bl)
theorem xe_notN (h : XE Z ta δ fun a δ1 => Φ (.bl (!isNon a)) δ1) : XE Z (tOp GS.rNotX ta (tC .non)) δ Φ := XE.mk fun B W M H σ Q I q =>
  h.run I fun M1 H1 δ1 x a h1 e1 I1 at1 => And.intro rfl (by
    have : decide (x = V.non) = isNon a := by cases at1 <;> simp [isNon]
    rw [this]
    exact q M1 H1 δ1 _ _ h1 e1 I1 .bl)
theorem xe_isB (h : XE Z ta δ fun a δ1 => XE Z tb δ1 fun b δ2 => ∃ i j, a = .bl i ∧ b = .bl j ∧ Φ (.bl (decide (i = j))) δ2) : XE Z (tOp GS.rIsB ta tb) δ Φ := XE.mk fun B W M H σ Q I q =>
  h.run I fun M1 H1 δ1 x a h1 e1 I1 at1 => XE.run h1 I1 fun M2 H2 δ2 y b h2 e2 I2 at2 => by
    obtain ⟨i, j, rfl, rfl, f⟩ := h2
    cases at1; cases at2
    exact ⟨i, j, rfl, rfl, q M2 H2 δ2 _ _ f (e1.tr e2) I2 .bl⟩
theorem xe_notB (h : XE Z ta δ fun a δ1 => XE Z tb δ1 fun b δ2 => ∃ i j, a = .bl i ∧ b = .bl j ∧ Φ (.bl (!decide (i = j))) δ2) : XE Z (tOp GS.rNotB ta tb) δ Φ := XE.mk fun B W M H σ Q I q =>
  h.run I fun M1 H1 δ1 x a h1 e1 I1 at1 => XE.run h1 I1 fun M2 H2 δ2 y b h2 e2 I2 at2 => by
    obtain ⟨i, j, rfl, rfl, f⟩ := h2
    cases at1; cases at2
    exact ⟨i, j, rfl, rfl, q M2 H2 δ2 _ _ f (e1.tr e2) I2 .bl⟩
/-! ### an own list that is lent -/
def loose1 : D → Bool | .non | .bl _ | .int _ | .str _ => true | _ => false
def looseD : D → Bool | .tup xs => xs.all loose1 | d => loose1 d
def Loose : S → Prop | .d x => looseD x = true | .own (.lst xs) => xs.all loose1 = true | _ => False
def minus (M : Hp) (p : Addr) : Hp := fun a => if a = p then none else M a
theorem minus_ne {M : Hp} {p a : Addr} (h : a ≠ p) : minus M p a = M a := if_neg h
theorem minus_same {M : Hp} {p : Addr} : minus M p p = none := if_pos rfl
theorem At.loose1 {M M' : Hp} {v : V} {d : D} (h : At Z M v d) (l : loose1 d = true) : At Z M' v d := by
  cases h with
  | non => exact .non
  | bl => exact .bl
  | int => exact .int
  | str => exact .str
  | _ => cases l
theorem AtL.loose1 {M M' : Hp} {vs : List V} {ds : List D} (h : AtL Z M vs ds) (l : ds.all G.loose1 = true) : AtL Z M' vs ds := ⟨h.len, fun i v d a b => (h.at' i v d a b).loose1 (List.all_eq_true.mp l d (List.mem_of_getElem? b))⟩
theorem At.looseD {M : Hp} {p : Addr} {us : List V} {v : V} {d : D} (hp : M p = some (.lst us)) (h : At Z M v d) (l : looseD d = true) : At Z (minus M p) v d := by
  cases h with
  | non => exact .non
  | bl => exact .bl
  | int => exact .int
  | str => exact .str
  | tup h l2 c =>
    have al := AtL.loose1 (M' := minus M p) ⟨l2, c⟩ l
    refine .tup ?_ l2 al.at'
    refine h.imp (fun r => ?_) id
    rcases r with r | ⟨o, r⟩
    · exact .inl ((minus_ne fun e => by subst e; rw [hp] at r; cases r).trans r)
    · exact .inr ⟨o, (minus_ne fun e => by subst e; rw [hp] at r; cases r).trans r⟩
  | _ => cases l
theorem xr_callL2 {F : FR} {dvs : List V} {dds : List D} {E : XK} {i : Nat} (hd : ∀ M : Hp, AtL Z M dvs dds)
    (h : XE Z ta δ fun d δ1 => ∃ xs, δ1[i]? = some (.own (.lst xs)) ∧ F (d :: .lst xs :: dds) fun s => Loose s ∧ Ψ s δ1) : XR Z (tCall (spR Z F) dvs E (tCons ta (tCons (tVar i) tNil))) δ Ψ := fun B W M H σ Q I q =>
  h.run I fun M1 H1 δ1 x d h1 e1 I1 at1 => by
    obtain ⟨xs, hi, f⟩ := h1
    obtain ⟨o, e, p, ho, rfl, hp, hy, hm⟩ := I1.sl i _ hi
    obtain ⟨vs, rfl, al⟩ := hy.lstI
    have ex : Ex M1 (upd M1 p (.lst vs)) := Ex.new hm
    refine ⟨_, e, upd M1 p (.lst vs), d :: .lst xs :: dds, _, fun b u g => ?_, .cons (at1.mono ex) (.cons (.lst upd_same al.len (al.mono ex).at') (hd _)), f, fun M' H' v s ⟨lo, g⟩ a1 a2 a3 a4 r => ?_⟩
    · by_cases z : b = p
      · subst z; rw [upd_same] at g; cases g; exact hp
      · rw [upd_ne z] at g; exact I1.ex b u g
    have hp' : M' p = some (.lst vs) := a1 _ _ upd_same
    have b1 : Ex M1 (minus M' p) := fun b u g => by
      have z : b ≠ p := fun z => by subst z; rw [hm] at g; cases g
      rw [minus_ne z]; exact a1 b u (ex b u g)
    have b2 : Ex (minus M' p) H' := fun b u g => by
      by_cases z : b = p
      · subst z; rw [minus_same] at g; cases g
      · rw [minus_ne z] at g; exact a2 b u g
    have b4 : ∀ p' o, H1 p' = some o → M1 p' = none → NT o → minus M' p p' = none := fun b u g n t => by
      by_cases z : b = p
      · subst z; exact minus_same
      · rw [minus_ne z]; exact a4 b u g (by rw [upd_ne z]; exact n) t
    refine q (minus M' p) H' δ1 v s g (e1.tr b1) (I1.after b1 b2 a3 b4) (ret_res I1 (fun _ _ o => o) ?_)
    cases s with
    | no => exact r
    | d y => exact At.looseD hp' r lo
    | own y =>
      obtain ⟨p', ho', rfl, c1, c2, c3, c4⟩ := r
      have c4' : H1 p' = none := c4
      have z : p' ≠ p := fun z => by subst z; rw [hp] at c4'; cases c4'
      refine ⟨p', ho', rfl, c1, ?_, by rw [minus_ne z]; exact c3, c4⟩
      cases y with
      | lst ys =>
        obtain ⟨ws, rfl, al'⟩ := c2.lstI
        exact al'.loose1 lo
      | _ => exact lo.elim
    | deal u cs n =>
      obtain ⟨r, rfl, ⟨r', e1, c1, c2, c3, c4, c5⟩, nh⟩ := r
      cases e1
      have z : ∀ a, Hol r (.deal u cs n) a → a ≠ p := fun a ha z => by
        have : H1 a = none := nh a ha
        rw [z, hp] at this; cases this
      exact ⟨r, rfl, ⟨r, rfl, c1, c2, by rw [minus_ne (z r (.inl rfl))]; exact c3, by rw [minus_ne (z u (.inr rfl))]; exact c4, c5⟩, nh⟩
end
end G
set_option Elab.async false
set_option linter.all false
set_option maxRecDepth 100000
set_option maxHeartbeats 4000000
namespace GS
open PySem PySem.Spec PyProof.Rows L2
section
variable {X : Cx}
def trueS (b : Bool) : Str := if b then "True" else "False"
def rRepB : List V → Hp → VK → Prop := fun vs H Q => ∃ b, vs = [V.bl b] ∧ Q (.str (trueS b)) H
end
end GS
namespace G
open PySem L2
section
variable {Z : Wd} {δ : List S} {te ta tb : TE} {Φ : D → List S → Prop} {X : Cx}
theorem xe_repB (h : XE Z te δ fun a δ1 => ∃ b, a = .bl b ∧ Φ (.str (GS.trueS b)) δ1) : XE Z (tCB GS.rRepB (tCons te tNil)) δ Φ := XE.mk fun B W M H σ Q I q =>
  h.run I fun M1 H1 δ1 x a h1 e1 I1 at1 => by
    obtain ⟨b, rfl, f⟩ := h1
    cases at1
    exact ⟨b, rfl, q M1 H1 δ1 _ _ f e1 I1 .str⟩
theorem units65 {k : Nat} {A : PySem.Around} (r : Room k A) : A.units + 65 < cLine := by have := r.un; omega
/-! ### in, of data -/
/-! ### data that can be laid -/
def Lay (n : Nat) (d : D) : Prop := PyData.canLay0 (py d) = true ∧ (py d).depth ≤ n
theorem lay_all {n : Nat} : ∀ {xs : List D}, (∀ x ∈ xs, Lay n x) → PyData.canLayAll0 (pyL xs) = true ∧ PyData.depthAll (pyL xs) ≤ n
  | [], _ => ⟨rfl, Nat.zero_le _⟩
  | x :: xs, h => by
    have h1 := h x (by simp)
    have h2 := lay_all (xs := xs) fun y hy => h y (List.mem_cons_of_mem _ hy)
    refine ⟨?_, ?_⟩
    · show PyData.canLayAll0 (py x :: pyL xs) = true
      rw [PyData.canLayAll0.eq_2, h1.1, h2.1]; rfl
    · show PyData.depthAll (py x :: pyL xs) ≤ n
      rw [PyData.depthAll.eq_2]
      exact Nat.max_le.mpr ⟨h1.2, h2.2⟩
theorem lay_lst {n : Nat} {xs : List D} (h : ∀ x ∈ xs, Lay n x) : Lay (n + 1) (.lst xs) := by
  obtain ⟨a, b⟩ := lay_all h
  refine ⟨?_, ?_⟩
  · show PyData.canLay0 (PyData.list (pyL xs)) = true
    rw [PyData.canLay0.eq_5, a]
  · show (PyData.list (pyL xs)).depth ≤ n + 1
    unfold PyData.depth
    omega
theorem lay_tup {n : Nat} {xs : List D} (h : ∀ x ∈ xs, Lay n x) : Lay (n + 1) (.tup xs) := by
  obtain ⟨a, b⟩ := lay_all h
  refine ⟨?_, ?_⟩
  · show PyData.canLay0 (PyData.tuple (pyL xs)) = true
    rw [PyData.canLay0.eq_6, a]
  · show (PyData.tuple (pyL xs)).depth ≤ n + 1
    unfold PyData.depth
    omega
theorem lay_str {n : Nat} {s : Str} (h : PyData.strOk s = true) : Lay n (.str s) := ⟨(PyData.canLay0.eq_4 s).trans h, by show (PyData.str s).depth ≤ n; unfold PyData.depth; omega⟩
theorem Lay.shaped {n : Nat} {d : D} (h : Lay n d) (k : n ≤ 64) : SeqAt.shaped (py d) = true := by
  show (PyData.canLay0 (py d) && decide ((py d).depth ≤ 64)) = true
  rw [h.1, decide_eq_true (Nat.le_trans h.2 k)]; rfl
theorem lay_strs1 {ws : List Str} (h : ∀ w ∈ ws, PyData.strOk w = true) : ∀ x ∈ ws.map D.str, Lay 0 x := fun x hx => by
  obtain ⟨w, hw, rfl⟩ := List.mem_map.mp hx
  exact lay_str (h w hw)
/-- a lot as a datum -/
def lotD (l : List Str) : D := .tup (l.map .str)
theorem lay_lotD {l : List Str} (h : ∀ w ∈ l, PyData.strOk w = true) : Lay 1 (lotD l) := lay_tup (lay_strs1 h)
theorem lay_lots {ls : List (List Str)} (h : ∀ l ∈ ls, ∀ w ∈ l, PyData.strOk w = true) : Lay 2 (.lst (ls.map lotD)) := lay_lst fun x hx => by
  obtain ⟨l, hl, rfl⟩ := List.mem_map.mp hx
  exact lay_lotD (h l hl)
end
end G
set_option Elab.async false
set_option linter.all false
set_option maxRecDepth 100000
set_option maxHeartbeats 4000000
/-! tuple[::-1], tuple + tuple -/
namespace GR
open PySem PySem.Spec PyProof.Rows L2
theorem back_ends (n : Nat) : Builtin.Slice.sliceAdjust none none (-1) (n : Int) = ((n : Int) - 1, -1) := rfl
theorem back_count (n : Nat) : Builtin.Slice.slicePlaces ((n : Int) - 1) (-1) (-1) = n := by
  unfold Builtin.Slice.slicePlaces
  rw [if_neg (by omega)]
  split
  · have : (-(-1) : Int) = 1 := rfl
    rw [this, Int.ediv_one]; omega
  · omega
theorem fm_map {α β : Type} {f : α → Option β} {g : α → β} : ∀ {l : List α}, (∀ x ∈ l, f x = some (g x)) → l.filterMap f = l.map g
  | [], _ => rfl
  | x :: l, h => by
    rw [List.filterMap_cons, h x (by simp), List.map_cons, fm_map fun y hy => h y (List.mem_cons_of_mem _ hy)]
theorem back_pick (xs : Array Value) : ((List.range xs.size).filterMap fun (k : Nat) => xs[(((xs.size : Int) - 1) + (k : Int) * (-1)).toNat]?) = xs.toList.reverse := by
  have e : ((List.range xs.size).filterMap fun (k : Nat) => xs[(((xs.size : Int) - 1) + (k : Int) * (-1)).toNat]?) = (List.range xs.size).map fun (k : Nat) => xs.getD (xs.size - 1 - k) .none := by
    refine fm_map fun k hk => ?_
    have := List.mem_range.mp hk
    have e2 : (((xs.size : Int) - 1) + (k : Int) * (-1)).toNat = xs.size - 1 - k := by omega
    have hl : xs.size - 1 - k < xs.size := by omega
    rw [e2]
    simp [Array.getD_eq_getD_getElem?, hl]
  rw [e]
  apply List.ext_getElem?
  intro j
  by_cases hj : j < xs.size
  · rw [List.getElem?_map, List.getElem?_range hj, List.getElem?_reverse (by simpa using hj)]
    have : xs.size - 1 - j < xs.size := by omega
    simp [Array.getD_eq_getD_getElem?, this]
  · rw [List.getElem?_eq_none (by simp; omega), List.getElem?_eq_none (by simp; omega)]
section
variable {prog : Program} {w : World} {A : Around} {E : Value → Shared → Prop} {s : Shared}
theorem back_applied {sl : Addr} {v1 v2 v3 : Value} {n : Nat} {Q : Int × Int × Nat → Shared → Prop} (hs : s.heap.IsSliceOf sl v1 v2 v3) (p1 : IsPart v1 none) (p2 : IsPart v2 none) (p3 : IsPart v3 (some (-1)))
    (h : Q ((n : Int) - 1, -1, n) s) : wpAny (model prog w) A (Builtin.Slice.sliceApplied (.ref sl) (pure (n : Int))) Q E s := by
  obtain ⟨o, ho, hc, hd⟩ := id hs
  unfold Builtin.Slice.sliceApplied Builtin.Slice.sliceFields
  refine wpAny_bind <| wpAny_bind <| wpAny_field ho hd (x := v1) rfl <| wpAny_bind <| wpAny_field ho hd (x := v2) rfl <| wpAny_bind <| wpAny_field ho hd (x := v3) rfl <| wpAny_pure ?_
  refine wpAny_bind <| HT.slicePart_ p3 ?_
  show wpAny _ _ (if ((-1 : Int) == 0) = true then _ else _) Q E s
  rw [if_neg (by decide)]
  refine wpAny_bind <| HT.slicePart_ p1 <| wpAny_bind <| HT.slicePart_ p2 <| wpAny_bind <| wpAny_pure ?_
  show wpAny _ _ (match Builtin.Slice.sliceAdjust none none (-1) (n : Int) with | (i, j) => pure (i, (-1 : Int), Builtin.Slice.slicePlaces i j (-1))) Q E s
  rw [back_ends n]
  show wpAny _ _ (pure (((n : Int) - 1), (-1 : Int), Builtin.Slice.slicePlaces ((n : Int) - 1) (-1) (-1))) Q E s
  rw [back_count]
  exact wpAny_pure h
theorem back_item {t sl : Addr} {items : Array Value} {v1 v2 v3 : Value} {Q : Value → Shared → Prop} (ht : IsTup s.heap t items) (hs : s.heap.IsSliceOf sl v1 v2 v3) (p1 : IsPart v1 none) (p2 : IsPart v2 none) (p3 : IsPart v3 (some (-1)))
    (h : Q (.ref s.heap.objs.size) { s with heap := s.heap.push { cls := .type "tuple", data := .seq items.toList.reverse.toArray } }) (hz : items.size ≤ sizeLine) : wpAny (model prog w) A (getItem (.ref t) (.ref sl)) Q E s := by
  have room : sizeOk (.seq items.toList.reverse.toArray) := by
    show items.toList.reverse.toArray.size ≤ sizeLine
    simpa using hz
  obtain ⟨o, ho, hc, hd⟩ := id hs
  have ty : s.TypeIs (.ref sl) "slice" := ⟨o, ho, hc⟩
  unfold getItem
  try with_reducible refine wpAny_holding ?_
  first | refine wpAny_bind (wpAny_pure ?_) | skip
  refine wpAny_bind <| wpAny_sequenceKey ht.typeIs (by decide) ?_
  refine wpAny_bind <| wpAny_callSpecial?_slot (name := Str.ofString "__getitem__") ht.typeIs PyProof.Rows.slot_tuple_getitem <| wpAny_call_entry PyProof.Rows.slot_tuple_getitem ht.typeIs entry_tuple_getitem ?_ (args_tuple_getitem _ _)
  show wpAny _ _ (Builtin.Tuple.tupleItemsOf (.ref t) >>= _) _ _ s
  refine wpAny_bind <| tupleItemsOf_ ht ?_
  refine wpAny_bind <| wpAny_typeOf ty ?_
  rw [if_pos (by decide)]
  refine wpAny_bind <| back_applied hs p1 p2 p3 ?_
  show wpAny _ _ (if ((((items.size : Int) - 1) == 0) && (-1 : Int) == 1 && items.size == items.size) = true then _ else _) _ _ s
  have no : ¬ (((((items.size : Int) - 1) == 0) && (-1 : Int) == 1 && items.size == items.size) = true) := by
    intro q
    rw [Bool.and_eq_true, Bool.and_eq_true] at q
    exact absurd q.1.2 (by decide)
  rw [if_neg no, back_pick]
  first
    | exact wpAny_bind (m := Builtin.Tuple.tupleExact _) (wpAny_newObj_type (wpAny_pure ⟨_, rfl, wpAny_pure h⟩) room)
    | exact wpAny_bind (m := Builtin.Tuple.tupleExact _) (wpAny_newObj_type (wpAny_bind (wpAny_pure (wpAny_pure ⟨_, rfl, wpAny_pure h⟩))) room)
    | exact wpAny_bind (wpAny_bind (m := Builtin.Tuple.tupleExact _) (wpAny_newObj_type (wpAny_pure (wpAny_pure ⟨_, rfl, wpAny_pure h⟩)) room))
    | exact wpAny_bind (wpAny_bind (m := Builtin.Tuple.tupleExact _) (wpAny_newObj_type (wpAny_pure ⟨_, rfl, wpAny_pure h⟩) room))
end
def tBack (K : PySem.W.Frag) (te : TE) : TE := fun σ H Q => te σ H fun x H1 => ∃ a xs, x = .ref a ∧ SqT K H1 a xs ∧ ∀ p, H1 p = none → Q (.ref p) (upd H1 p (.tup xs.reverse))
section
variable {X : Cx}
theorem pe_back {e : Expr} {te : TE} {k : Nat} {q1 q2 q3 pos : Pos} (he : PE X e te) : PE X (.Subscript e (.Slice none none (some (.UnaryOp .USub (.Constant (.int 1) k q1) q2)) q3) pos) (tBack X.K te) := by
  refine ⟨fun pins s σ H Q I h => ?_⟩
  refine Subscript_ <| thn (he.run pins s σ H _ I h) fun v s1 ⟨x, H1, I1, r1, c1⟩ => ?_
  obtain ⟨a, xs, rfl, hx, q⟩ := c1
  cases r1
  have st : PO X (some (.UnaryOp .USub (.Constant (.int 1) k q1) q2)) (tPart (tUn (rU fun i => .int (-i)) (tC (.int 1)))) := po_some (pe_un un_neg pe_int)
  refine wpAny_Slice <| thn (po_none.run pins s1 σ H1 (fun o Z => o = none ∧ Z = H1) I1 ⟨rfl, rfl⟩) fun vl s2 ⟨l, H2, I2, pl, el, e2⟩ => ?_
  subst el e2
  refine thn (po_none.run pins s2 σ H2 (fun o Z => o = none ∧ Z = H2) I2 ⟨rfl, rfl⟩) fun vu s3 ⟨u, H3, I3, pu, eu, e3⟩ => ?_
  subst eu e3
  refine thn (st.run pins s3 σ H3 (fun o Z => o = some (-1) ∧ Z = H3) I3 ⟨1, rfl, -1, rfl, rfl, rfl⟩) fun vs s4 ⟨o, H4, I4, ps, eo, e4⟩ => ?_
  subst eo e4
  have I5 : Inv X pins σ H4 { s4 with heap := s4.heap.push { cls := .type "slice", data := .fields #[vl, vu, vs] } } := I4.kept (t' := s4.toks) fun b ob z => Heap.get?_push_of_some _ z
  obtain ⟨its, r, ht, hz⟩ := I5.tuple hx
  have len := r.length
  show wpAny (model X.prog X.w) X.A (subscriptTail e (.Slice none none (some (.UnaryOp .USub (.Constant (.int 1) k q1) q2)) q3) (.ref a) (.ref s4.heap.objs.size)) (EP X pins σ Q) X.xe { s4 with heap := s4.heap.push { cls := .type "slice", data := .fields #[vl, vu, vs] } }
  refine tail_any (ops := [.ref a, .ref s4.heap.objs.size]) ht.typeIs PyProof.Rows.slot_tuple_getitem.lookup ?_ (by with_unfolding_all rfl)
  refine back_item ht (Heap.IsSliceOf.new _ vl vu vs) pl pu ps ?_ (by rw [List.size_toArray]; omega)
  refine ⟨.ref _, _, I5.laid (t' := s4.toks) (o := .tup xs.reverse) (fun b ob z => Heap.get?_push_of_some _ z) (Nat.le_refl _) ?_, rfl, q _ (I5.hok.fresh (Nat.le_refl _))⟩
  exact ⟨by rw [List.length_reverse]; exact hz, _, r.reverse, IsTup.new _ _⟩
end
end GR
namespace G
open PySem L2
section
variable {Z : Wd} {δ : List S} {te ta tb : TE} {Φ : D → List S → Prop}
theorem AtL.rev {M : Hp} {vs : List V} {ds : List D} (h : AtL Z M vs ds) : AtL Z M vs.reverse ds.reverse := ⟨by simp [h.len], fun i v d a b => by
  have li : i < vs.length := by have := (List.getElem?_eq_some_iff.mp a).1; simpa using this
  rw [List.getElem?_reverse li] at a
  rw [List.getElem?_reverse (h.len ▸ li), ← h.len] at b
  exact h.at' _ v d a b⟩
theorem xe_back (h : XE Z te δ fun d δ1 => ∃ xs, d = .tup xs ∧ Φ (.tup xs.reverse) δ1) : XE Z (GR.tBack Z.K te) δ Φ := XE.mk fun B W M H σ Q I q =>
  h.run I fun M1 H1 δ1 x a h1 e1 I1 at1 => by
    obtain ⟨xs, rfl, f⟩ := h1
    cases at1 with
    | tup k l c =>
      refine ⟨_, _, rfl, sqT_mono I1.ex k, fun p hp => ?_⟩
      exact newT I1 hp (AtL.rev ⟨l, c⟩) f e1 q
end
end G
set_option Elab.async false
set_option linter.all false
set_option maxRecDepth 100000
set_option maxHeartbeats 4000000
/-! slices of a list or a tuple; data of ints compared -/
namespace GR
open PySem L2
def rSlS (K : PySem.W.Frag) : V → Option Int → Option Int → Hp → VK → Prop := fun x lo hi H Q => rSlL K x lo hi H Q ∨ rSlA K x lo hi H Q
theorem sl_seq {X : Cx} : SlR X (rSlS X.K) := SlR.or sl_list sl_tupA
end GR
namespace G
open PySem L2
section
variable {Z : Wd} {B : Bas} {W : List (Nat × Addr)} {M H : Hp} {σ : St} {δ : List S} {te tb : TE} {Φ : D → List S → Prop} {tl th : TO}
theorem cut_all {α : Type} {xs : List α} {lo hi : Option Int} (h : HT.sIx xs.length 0 lo = 0 ∧ HT.sIx xs.length xs.length hi = xs.length) : cut xs lo hi = xs := by
  unfold cut
  rw [h.1, h.2]; simp
/-- of either -/
def cutD : D → Option Int → Option Int → Option D
  | .lst xs, lo, hi => some (.lst (cut xs lo hi))
  | .tup xs, lo, hi => some (.tup (cut xs lo hi))
  | _, _, _ => none
theorem xe_slS (h : XE Z te δ fun a δ1 => XP Z tl δ1 fun lo δ2 => XP Z th δ2 fun hi δ3 => ∃ d, cutD a lo hi = some d ∧ Φ d δ3) : XE Z (tSl (GR.rSlS Z.K) te tl th) δ Φ := XE.mk fun B W M H σ Q I q =>
  h.run I fun M1 H1 δ1 x a h1 e1 I1 at1 => h1 B W M1 H1 σ _ I1 fun M2 H2 δ2 lo h2 e2 I2 => h2 B W M2 H2 σ _ I2 fun M3 H3 δ3 hi h3 e3 I3 => by
    obtain ⟨d, hd, f⟩ := h3
    cases at1.mono (e2.tr e3) with
    | @tup _ vs _ h l c =>
      cases hd
      refine .inr ⟨_, _, rfl, sqT_mono I3.ex h, fun w => ?_, fun w p hp => newT I3 hp (AtL.cut lo hi ⟨l, c⟩) f (e1.tr (e2.tr e3)) q⟩
      rw [cut_all (by rw [← l]; exact w)] at f
      exact q M3 H3 δ3 _ _ f (e1.tr (e2.tr e3)) I3 (.tup h l c)
    | @lst _ vs _ h l c =>
      cases hd
      refine .inl ⟨_, _, rfl, SqL.of (I3.ex _ _ h), fun p hp => ?_⟩
      have hm := I3.ex.free hp
      exact q _ _ δ3 _ _ f ((e1.tr (e2.tr e3)).tr (Ex.new hm)) (I3.grow hp) (.lst upd_same (AtL.cut lo hi ⟨l, c⟩).len ((AtL.cut lo hi ⟨l, c⟩).mono (Ex.new hm)).at')
    | _ => cases hd
end
/-! ints compared -/
end G
set_option Elab.async false
set_option linter.all false
set_option maxRecDepth 100000
set_option maxHeartbeats 4000000
/-! errors: raised, let through, caught -/
namespace GX
open PySem PySem.Spec PyProof.Rows L2
/-- an error's __init__ with one field -/
def spErr (K : PySem.W.Frag) (f : Str) : Sp := fun vs H Q _ => ∃ (a C : Addr) (v : V), vs = [.ref a, v] ∧ OexC K C ∧ PySem.W.findIn K (.ref C) f = some none ∧ H a = some (exo a C none) ∧
  ∀ d, H d = none → d ≠ a → Q .non (upd (upd H d (exd d [(f, v)])) a (exo a C (some d)))
def tRaiseO (C : Addr) (sp : Sp) (W : WX) (ta : TA) : TS := fun _ σ H => tMkO C sp [] ta σ H fun cls d H' => W cls d σ H'
section
variable {X : Cx} {CX : CXT} {k : Nat} {C fI : Addr} {fd : FuncData} {ps : List Str} {sp : Sp} {x : Str} {p pos pos2 : Pos} {e : Expr} {es : List Expr} {t : TA} {W : WX}
theorem ps_raiseO (hc : X.calm = true) (tk : Takes X W) (o : OexC X.K C) (i1 : PySem.W.findIn X.K (.ref C) "__init__" = some (some (.ref fI))) (i2 : PySem.W.typeIn X.K (.ref fI) = some (.type "function")) (F : FnOk X.prog X.w X.K X.mg X.base CX0 k fI fd ps sp) (hr : Room (k + 1) X.A)
    (b : Binds X.K fd ps []) (hg : Gl X x) (hm : X.mg x = some (.ref C)) (ha : PA X (e :: es) t) (hdb : (x == ("__debug__" : Str)) = false := by decide)
    (he : starEach (e :: es) X.env = (false, eval e X.env) :: starEach es X.env := by rfl) (hpl : (backTo pos (starEach es X.env)).any (·.1) = false := by rfl) :
    PS X (.Raise (some (.Call (.Name x p) (e :: es) [] pos)) none pos2) (tRaiseO C sp W t) :=
  ps_raise hc tk (pmk_oex o i1 i2 F hr b .nil pass0 hg hm ha hdb he hpl)
/-! a new instance whose __init__ may raise, wished for at the slots -/
variable {dvs : List V} {ds : List Value} {E : L2.St → XK} {f : Addr}
/-! isinstance(e, c), e the error that the suite holds, with its own dict -/
end
end GX
namespace G
open PySem L2
section
variable {Z : Wd} {M H M' H' : Hp} {B : Bas} {W : List (Nat × Addr)} {σ : St} {δ : List S}
variable {te ta tb : TE} {Φ : D → List S → Prop} {Ψ : S → List S → Prop} {Ω : OD → List S → Prop} {Λ : List D → List S → Prop} {ts : TA} {bs : List Nat} {P : Po}
abbrev XX := Bas → List (Nat × Addr) → Hp → Prop
/-- the wish of an error of the class number c with the datum x is granted -/
def XW (Z : Wd) (Wx : WX) (X : XX) (c : Nat) (x : D) (δ : List S) : Prop :=
  ∀ B W M H σ d v, X B W M → I3 Z B W M H σ δ → M d = some (.xd [((Z.er c).2, v)]) → At Z M v x → Wx (.ref (Z.er c).1) (some d) σ H
theorem xs_raise {c : Nat} {Wx : WX} (o : OexC Z.K (Z.er c).1) (n : PySem.W.findIn Z.K (.ref (Z.er c).1) (Z.er c).2 = some none) (h : XE Z te δ fun x δ' => XW Z Wx P.X c x δ') :
    XS Z bs (GX.tRaiseO (Z.er c).1 (GX.spErr Z.K (Z.er c).2) Wx (tCons te tNil)) δ P := fun B W M H σ E hb I e => by
  refine h.run I fun M1 H1 δ1 v x h1 e1 I1 at1 => ?_
  refine ⟨by simp, fun a ha => ⟨a, (Z.er c).1, v, rfl, o, n, upd_same, fun d hd hda => ⟨rfl, d, _, upd_same, by rw [upd_ne hda, upd_same], by rwa [upd_ne hda] at hd, ?_⟩⟩⟩
  have hd1 : H1 d = none := by rwa [upd_ne hda] at hd
  have eq : upd (L2.del (upd (upd (upd H1 a (exo a (Z.er c).1 none)) d (exd d [((Z.er c).2, v)])) a (exo a (Z.er c).1 (some d))) a) d (.xd [((Z.er c).2, v)]) = upd H1 d (.xd [((Z.er c).2, v)]) := by
    funext b
    by_cases z : b = d
    · subst z; rw [upd_same, upd_same]
    · rw [upd_ne z, upd_ne z]
      by_cases y : b = a
      · subst y; rw [del_same, ha]
      · rw [del_ne y, upd_ne y, upd_ne z, upd_ne y]
  show Wx (.ref (Z.er c).1) (some d) σ (upd (L2.del _ a) d (.xd _))
  rw [eq]
  have hm : M1 d = none := I1.ex.free hd1
  exact h1 B W _ _ σ d v (e.xc _ (e1.tr (Ex.new hm))) (I1.grow hd1) upd_same (at1.mono (Ex.new hm))
/-! ### contracts of defs that may raise -/
abbrev FRX := List D → (S → Prop) → (Nat → D → Prop) → Prop
abbrev FBX := OD → List D → (S → OD → Prop) → (Nat → D → OD → Prop) → Prop
def spRX (Z : Wd) (F : FRX) : Sp := fun vs H Q E => ∃ M ds Φ Ξ, Ex M H ∧ AtL Z M vs ds ∧ F ds Φ Ξ ∧
  (∀ M' H' v s, Φ s → Ex M M' → Ex M' H' → Ex H H' → (∀ p o, H p = some o → M p = none → NT o → M' p = none) → RetOk Z ⟨H, M⟩ M' H' v s → Q v H') ∧
  ∀ M' H' c d v x, Ξ c x → Ex M M' → Ex M' H' → Ex H H' → (∀ p o, H p = some o → M p = none → NT o → M' p = none) → M' d = some (.xd [((Z.er c).2, v)]) → At Z M' v x → E (.ref (Z.er c).1) (some d) H'
def spBX (Z : Wd) (F : FBX) : Sp := fun vs H Q E => ∃ M p ws ho y ds Φ Ξ, vs = .ref p :: ws ∧ H p = some ho ∧ M p = none ∧ ODAt Z M ho y ∧ Ex M H ∧ AtL Z M ws ds ∧ F y ds Φ Ξ ∧
  (∀ M' H' v s ho' y', Φ s y' → Ex M M' → Ex M' H' → (∀ a o, a ≠ p → H a = some o → H' a = some o) → (∀ p o, H p = some o → M p = none → NT o → M' p = none) → H' p = some ho' → ODAt Z M' ho' y' → RetOk Z ⟨H, M⟩ M' H' v s → Q v H') ∧
  ∀ M' H' c d v x ho' y', Ξ c x y' → Ex M M' → Ex M' H' → (∀ a o, a ≠ p → H a = some o → H' a = some o) → (∀ p o, H p = some o → M p = none → NT o → M' p = none) → H' p = some ho' → ODAt Z M' ho' y' → M' d = some (.xd [((Z.er c).2, v)]) → At Z M' v x → E (.ref (Z.er c).1) (some d) H'
/-! ### a def's body that may raise -/
def XR0 (H M : Hp) : XX := fun B W M' => B = ⟨H, M⟩ ∧ W = [] ∧ Ex M M'
def XB0 (H M : Hp) (p : Addr) : XX := fun B W M' => B = ⟨H, M⟩ ∧ W = [(0, p)] ∧ Ex M M'
theorem xw_B {E : XK} {p : Addr} {y' : OD} {Ξ : Nat → D → OD → Prop} (qx : ∀ M' H' c d v x ho' y', Ξ c x y' → Ex M M' → Ex M' H' → (∀ a o, a ≠ p → H a = some o → H' a = some o) → (∀ p o, H p = some o → M p = none → NT o → M' p = none) → H' p = some ho' → ODAt Z M' ho' y' → M' d = some (.xd [((Z.er c).2, v)]) → At Z M' v x → E (.ref (Z.er c).1) (some d) H') {c : Nat} {x : D} (hy : δ[0]? = some (.own y')) (h : Ξ c x y') :
    XW Z (fun cls d _ H' => E cls d H') (XB0 H M p) c x δ := fun B W M' H' σ d v ⟨b, w, ex⟩ I hd a => by
  subst b; subst w
  have hO := I.bor 0 p List.mem_cons_self
  obtain ⟨ho', h2, h3, _⟩ := I.ownO hO hy
  exact qx M' H' c d v x ho' y' h ex I.ex (fun a o hne e => I.keep a o e fun i hi => by
    have := List.mem_singleton.mp hi
    cases this; exact hne rfl) I.mg h2 h3 hd a
theorem entRX {ts : TS} {N : List Str} {vs : List V} {Q : VK} {n : Nat} {ds : List D} {Φ : S → Prop} (ex : Ex M H) (al : AtL Z M vs ds) (hn : N.length = ds.length + n)
    (q : ∀ M' H' v s, Φ s → Ex M M' → Ex M' H' → Ex H H' → (∀ p o, H p = some o → M p = none → NT o → M' p = none) → RetOk Z ⟨H, M⟩ M' H' v s → Q v H')
    (hx : XS Z [] ts (ds.map .d ++ List.replicate n .no) { N := fun _ => Φ (.d .non), R := fun s _ => Φ s, X := XR0 H M }) : ts { nx := fun _ H' => Q .non H', rt := Q } (L2.start N vs) H := by
  have hlen := al.len
  have noOwn : ∀ i p, ¬ Own (L2.start N vs) (ds.map S.d ++ List.replicate n S.no) i p := fun i p => Own.plain
  have I : I3 Z ⟨H, M⟩ [] M H (L2.start N vs) (ds.map S.d ++ List.replicate n S.no) := by
    refine ⟨ex, fun _ _ _ e _ => e, fun _ _ e _ => e, ?_, fun i s e => ?_, fun i p w => by simp at w, fun i p o => absurd o (noOwn i p), fun i j p o => absurd o (noOwn i p)⟩
    · unfold L2.start; simp; omega
    · by_cases hi : i < ds.length
      · rw [List.getElem?_append_left (by simp [hi]), List.getElem?_map] at e
        cases e1 : ds[i]? with
        | none => rw [e1] at e; cases e
        | some d =>
          rw [e1] at e; cases e
          obtain ⟨v, e2, a⟩ := al.get e1
          refine ⟨some v, ?_, v, rfl, a⟩
          unfold L2.start
          rw [List.getElem?_append_left (by simp; omega), List.getElem?_map, e2]; rfl
      · rw [List.getElem?_append_right (by simp; omega), List.getElem?_replicate] at e
        split at e
        · rename_i h1
          cases e
          refine ⟨none, ?_, trivial⟩
          unfold L2.start
          rw [List.getElem?_append_right (by simp; omega), List.getElem?_replicate, if_pos (by simp at h1 ⊢; omega)]
        · cases e
  have fin : ∀ M' H' σ' δ', I3 Z ⟨H, M⟩ [] M' H' σ' δ' → Ex H H' := fun M' H' σ' δ' J a o e => J.keep a o e fun i hi => by simp at hi
  refine hx ⟨H, M⟩ [] M H _ _ rfl I ⟨fun M' H' σ' δ' p e J => q M' H' .non (.d .non) p e J.ex (fin _ _ _ _ J) J.mg .non, fun M' H' σ' δ' v s p e J r => q M' H' v s p e J.ex (fin _ _ _ _ J) J.mg r, fun _ _ _ _ f => f.elim, fun _ _ _ _ f => f.elim, fun M2 x => ⟨rfl, rfl, x⟩⟩
theorem entBX {ts : TS} {N : List Str} {ws : List V} {p : Addr} {ho : HO} {y : OD} {Q : VK} {n : Nat} {ds : List D} {Φ : S → OD → Prop} (hp : H p = some ho) (hm : M p = none) (hy : ODAt Z M ho y) (ex : Ex M H) (al : AtL Z M ws ds) (hn : N.length = ds.length + 1 + n)
    (q : ∀ M' H' v s ho' y', Φ s y' → Ex M M' → Ex M' H' → (∀ a o, a ≠ p → H a = some o → H' a = some o) → (∀ p o, H p = some o → M p = none → NT o → M' p = none) → H' p = some ho' → ODAt Z M' ho' y' → RetOk Z ⟨H, M⟩ M' H' v s → Q v H')
    (hx : XS Z [0] ts (.own y :: (ds.map .d ++ List.replicate n .no)) { N := fun δ' => ∃ y', δ'[0]? = some (.own y') ∧ Φ (.d .non) y', R := fun s δ' => ∃ y', δ'[0]? = some (.own y') ∧ Φ s y', X := XB0 H M p }) : ts { nx := fun _ H' => Q .non H', rt := Q } (L2.start N (.ref p :: ws)) H := by
  have hlen := al.len
  have only : ∀ i q, Own (L2.start N (V.ref p :: ws)) (S.own y :: (ds.map S.d ++ List.replicate n S.no)) i q → i = 0 ∧ q = p := fun i q o => by
    obtain ⟨r, y', e0, e, c⟩ := o
    cases i with
    | zero =>
      have : some (some (V.ref p)) = some (some (V.ref r)) := e0
      cases this
      cases e; exact ⟨rfl, c⟩
    | succ i =>
      rw [List.getElem?_cons_succ] at e
      exact (plain_no e _ _ c).elim
  have I : I3 Z ⟨H, M⟩ [(0, p)] M H (L2.start N (V.ref p :: ws)) (S.own y :: (ds.map S.d ++ List.replicate n S.no)) := by
    refine ⟨ex, fun _ _ _ e _ => e, fun _ _ e _ => e, ?_, fun i s e => ?_, fun i q w => ?_, fun i q o => ?_, fun i j q o o' => ?_⟩
    · unfold L2.start; simp; omega
    · cases i with
      | zero => cases e; exact ⟨some (.ref p), rfl, p, ho, rfl, hp, hy, hm⟩
      | succ i =>
        rw [List.getElem?_cons_succ] at e
        have es : (L2.start N (V.ref p :: ws))[i + 1]? = (ws.map some ++ List.replicate n (none : Option V))[i]? := by
          unfold L2.start
          have : N.length - (V.ref p :: ws).length = n := by simp; omega
          rw [this]; rfl
        rw [es]
        by_cases hi : i < ds.length
        · rw [List.getElem?_append_left (by simp [hi]), List.getElem?_map] at e
          cases e1 : ds[i]? with
          | none => rw [e1] at e; cases e
          | some d =>
            rw [e1] at e; cases e
            obtain ⟨v, e2, a⟩ := al.get e1
            refine ⟨some v, ?_, v, rfl, a⟩
            rw [List.getElem?_append_left (by simp; omega), List.getElem?_map, e2]; rfl
        · rw [List.getElem?_append_right (by simp; omega), List.getElem?_replicate] at e
          split at e
          · rename_i h1
            cases e
            refine ⟨none, ?_, trivial⟩
            rw [List.getElem?_append_right (by simp; omega), List.getElem?_replicate, if_pos (by simp at h1 ⊢; omega)]
          · cases e
    · have := List.mem_singleton.mp w
      cases this
      exact Own.mk rfl rfl
    · obtain ⟨rfl, rfl⟩ := only i q o
      exact .inl List.mem_cons_self
    · rw [(only i q o).1, (only j q o').1]
  have fin : ∀ M' H' σ' δ' y', I3 Z ⟨H, M⟩ [(0, p)] M' H' σ' δ' → δ'[0]? = some (.own y') → (∀ a o, a ≠ p → H a = some o → H' a = some o) ∧ ∃ ho', H' p = some ho' ∧ ODAt Z M' ho' y' := fun M' H' σ' δ' y' J e => by
    refine ⟨fun a o hne e => J.keep a o e fun i hi => ?_, ?_⟩
    · have := List.mem_singleton.mp hi
      cases this; exact hne rfl
    · have hO := J.bor 0 p List.mem_cons_self
      obtain ⟨ho', h2, h3, _⟩ := J.ownO hO e
      exact ⟨ho', h2, h3⟩
  refine hx ⟨H, M⟩ [(0, p)] M H _ _ rfl I ⟨fun M' H' σ' δ' f e J => ?_, fun M' H' σ' δ' v s f e J r => ?_, fun _ _ _ _ f => f.elim, fun _ _ _ _ f => f.elim, fun M2 x => ⟨rfl, rfl, x⟩⟩
  · obtain ⟨y', hy', f⟩ := f
    obtain ⟨k1, ho', k2, k3⟩ := fin _ _ _ _ _ J hy'
    exact q M' H' .non (.d .non) ho' y' f e J.ex k1 J.mg k2 k3 .non
  · obtain ⟨y', hy', f⟩ := f
    obtain ⟨k1, ho', k2, k3⟩ := fin _ _ _ _ _ J hy'
    exact q M' H' v s ho' y' f e J.ex k1 J.mg k2 k3 r
/-! ### try: .. except C as n: .. -/
end
end G
set_option Elab.async false
set_option linter.all false
set_option maxRecDepth 100000
set_option maxHeartbeats 4000000
/-! in, not in: signs, data in tuples; lists of data compared with none -/
namespace GX
open PySem PySem.Spec PyProof.Rows L2
def rInTup (K : PySem.W.Frag) (neg : Bool) : R2 := fun x y H Q => ∃ d ds, Dp K H x d ∧ Dp K H y (.tuple ds) ∧ SeqAt.shaped d = true ∧ SeqAt.shaped (.tuple ds) = true ∧ Q (.bl (if neg then !ds.any (fun z => PyData.eqv z d) else ds.any fun z => PyData.eqv z d)) H
section
variable {X : Cx}
theorem lay_items {ds : List PyData} (h : SeqAt.shaped (.tuple ds) = true) : PyData.canLayAll0 ds = true := by
  have := SeqAt.canLay_of_shaped h
  simpa [PyData.canLay0] using this
theorem op_inTup (room : X.A.units + 65 < cLine) : OpR X (compareOp .In) (rInTup X.K false) := fun pins s σ H x y v u Q I rx ry ⟨d, ds, hd, he, sd, se, q⟩ => by
  obtain ⟨_, read1⟩ := Dp.reads I d x v hd rx
  obtain ⟨_, read2⟩ := Dp.reads I (.tuple ds) y u he ry
  exact SeqAt.in_tuple_reads read2 read1 (lay_items se) (SeqAt.canLay_of_shaped sd) (room_in_shaped sd room) ⟨.bl _, H, I, rfl, q⟩
end
theorem kit_ref {K : PySem.W.Frag} {C L : Addr} {b : Bool} (h1 : PySem.W.isClsIn K L = true) (h2 : PySem.W.typeIn K (.ref L) = some (.type "type")) (h3 : PySem.W.subIn K (.ref C) (.ref L) = some b) (h4 : PySem.W.subIn K (.ref C) (.ref C) = some true) : PySem.W.kitOne K (.ref C) (.ref L) = some b := by
  have h1' : (PySem.W.clsIn K L).isSome = true := h1
  unfold PySem.W.kitOne
  by_cases e : C = L
  · subst e
    rw [h3] at h4
    cases h4
    simp
  · rw [if_neg (by simpa using e)]
    unfold PySem.W.kitCls
    simp [h1', h2, h3]
end GX
namespace G
open PySem L2
theorem eqv_nil (xs : List D) : PyData.eqv (py (.lst xs)) (py (.lst [])) = xs.isEmpty := by
  cases xs with
  | nil => exact (eqv_lst [] []).trans (decide_eq_true rfl)
  | cons x xs => rfl
end G
set_option Elab.async false
set_option linter.all false
set_option maxRecDepth 100000
set_option maxHeartbeats 4000000
/-! isinstance of anything; repr of ints, of None -/
namespace GX
open PySem PySem.Spec PyProof.Rows L2
theorem kit_tyref {K : PySem.W.Frag} {L : Addr} {n : String} {b : Bool} (h1 : PySem.W.isClsIn K L = true) (h2 : PySem.W.typeIn K (.ref L) = some (.type "type")) (h3 : PySem.W.subIn K (.type n) (.ref L) = some b) : PySem.W.kitOne K (.type n) (.ref L) = some b := by
  have h1' : (PySem.W.clsIn K L).isSome = true := h1
  unfold PySem.W.kitOne
  rw [if_neg (by simp)]
  unfold PySem.W.kitCls
  simp [h1', h2, h3]
section
variable {X : Cx}
/-- a def that may raise, called where it does not -/
theorem calm {P : Program} {w : World} {K : PySem.W.Frag} {mg : Str → Option Value} {base : Heap} {k : Nat} {f : Addr} {fd : FuncData} {ps : List Str} {sp sp0 : Sp} (F : FnOk P w K mg base (L2.CX P w) k f fd ps sp) (h : ∀ vs H Q E, sp0 vs H Q E → sp vs H Q fun _ _ _ => False) : FnOk P w K mg base CX0 k f fd ps sp0 :=
  ⟨fun vs H Q E x => F.len _ _ _ _ (h vs H Q E x), fun A outer s H args us vs Q E hr e0 hb r hsp => codeAny_mono (F.run A outer s H args us vs Q _ hr e0 hb r (h _ _ _ _ hsp)) fun res s' c => by
    match res, c with
    | .ok (.ret u), c => exact c
    | .ok .next, c => exact c
    | .ok .brk, c => exact c
    | .ok .cont, c => exact c
    | .error e, c =>
      obtain ⟨_, _, _, _, _, _, _, _, _, _, _, _, z⟩ := c
      exact z.elim⟩
end
end GX
namespace G
open PySem L2
section
variable {P : Program} {w : World} {K : PySem.W.Frag} {mg : Str → Option Value} {base : Heap} {k : Nat} {f : Addr} {fd : FuncData} {ps : List Str} {Z : Wd}
theorem calmR {F : FRX} {F0 : FR} (h : FnOk P w K mg base (L2.CX P w) k f fd ps (spRX Z F)) (g : ∀ ds Φ, F0 ds Φ → F ds Φ fun _ _ => False) : FnOk P w K mg base CX0 k f fd ps (spR Z F0) :=
  GX.calm h fun vs H Q E ⟨M, ds, Φ, ex, al, f0, q⟩ => ⟨M, ds, Φ, _, ex, al, g ds Φ f0, q, fun _ _ _ _ _ _ z => z.elim⟩
theorem calmB {F : FBX} {F0 : FB} (h : FnOk P w K mg base (L2.CX P w) k f fd ps (spBX Z F)) (g : ∀ y ds Φ, F0 y ds Φ → F y ds Φ fun _ _ _ => False) : FnOk P w K mg base CX0 k f fd ps (spB Z F0) :=
  GX.calm h fun vs H Q E ⟨M, p, ws, ho, y, ds, Φ, e, hp, hm, hy, ex, al, f0, q⟩ => ⟨M, p, ws, ho, y, ds, Φ, _, e, hp, hm, hy, ex, al, g y ds Φ f0, q, fun _ _ _ _ _ _ _ _ z => z.elim⟩
end
end G
set_option Elab.async false
set_option linter.all false
set_option maxRecDepth 100000
set_option maxHeartbeats 4000000
/-! tuples whose objects are known to have no dict: made, joined, asked for a place -/
namespace GX
open PySem PySem.Spec PyProof.Rows L2
def Bare (o : Obj) : Prop := o.cls = .type "tuple" ∧ (o.dict = none ∧ o.slots = #[])
def rTupleF (K : PySem.W.Frag) : List V → Hp → VK → Prop := fun xs H Q => ∃ p ys, xs = [.ref p] ∧ SqL K H p ys ∧ ∀ l o, H l = none → Bare o → Q (.ref l) (upd H l (.frz o (.tup ys)))
def tTupIx (K : PySem.W.Frag) (to : TE) (t : TA) : TE := fun σ H Q => to σ H fun x H1 => (∃ (p : Addr) (o : Obj) (vs : List V), x = .ref p ∧ H1 p = some (.frz o (.tup vs)) ∧ Bare o) ∧
  t σ H1 fun xs H2 => ∃ p, ∃ ys : List Str, ∃ z j, x = .ref p ∧ xs = [.str z] ∧ SqT K H2 p (ys.map V.str) ∧ ys[j]? = some z ∧ (∀ m, m < j → ys[m]? ≠ some z) ∧ Q (.int (j : Nat)) H2
section
variable {X : Cx} {K : PySem.W.Frag} {es : List Expr} {e o : Expr} {t : TA} {to : TE} {pos apos cpos : Pos}
theorem call_tupleF : CallR X (.type "tuple") (rTupleF X.K) := fun pins s σ H xs us Q J rel ⟨p, ys, ex, sq, go⟩ => by
  subst ex
  match us, rel with
  | [_], .cons rx .nil =>
    cases rx
    obtain ⟨its, rv, pl, small⟩ := J.list sq
    have same := rv.length
    refine call_tuple_list pl.isList (fun h' kp => ?_) (by simp only [List.size_toArray]; omega)
    have J1 : Inv X pins σ H { s with heap := h' } := J.kept (t' := s.toks) kp
    have at' := Heap.get?_push_size h' (o := { cls := .type "tuple", data := .seq its.toArray }) rfl
    exact ⟨.ref _, _, J1.laid (t' := s.toks) (o := .frz _ (.tup ys)) (fun _ _ g => Heap.get?_push_of_some _ g) (Nat.le_refl _) ⟨at', small, its, rv, ⟨_, at', rfl, _, rfl⟩⟩, rfl, go _ _ (J1.hok.fresh (Nat.le_refl _)) ⟨rfl, rfl, rfl⟩⟩
theorem pe_tupIx (hK : X.K = K) (ho : PE X o to) (ha : PA X (e :: es) t) (base : attributeBase o "index" X.env (eval o X.env) = eval o X.env := by rfl)
    (few : ((backTo cpos (starEach (e :: es) X.env)).all (fun x => !x.1) && (backToKw cpos (keywordEach [] X.env)).all (fun x => x.1.isSome) && decide ((e :: es).length + ([] : List Keyword).length + (if ([] : List Keyword).isEmpty then 0 else 1) < 30)) = true := by rfl)
    (line : (apos.endLine == cpos.line) = true := by rfl) (hs : starEach (e :: es) X.env = (false, eval e X.env) :: starEach es X.env := by rfl) (plain : (backTo cpos (starEach es X.env)).any (·.1) = false := by rfl) :
    PE X (.Call (.Attribute o "index" apos) (e :: es) [] cpos) (tTupIx K to t) := ⟨fun pins s σ H Q J h => by
  subst hK
  refine wpAny_Call_method_late base few line rfl (thn (ho.run pins s σ H _ J h) fun v s1 ⟨x, H1, J1, r1, ⟨p, ob, vs, ex, hp, bare⟩, q1⟩ => ?_)
  subst ex
  cases r1
  obtain ⟨there, _⟩ := (show ObjOk X.prog X.w H1 s1.heap p (.frz ob (.tup vs)) from J1.hok p _ hp)
  refine ⟨"tuple", "tuple.index", PySem.F.plainAttrs_tuple, PySem.F.slot_tuple_index, PySem.F.type_tuple_index, ⟨ob, there, bare.1⟩, fun a ea => by cases ea; exact ⟨ob, there, bare.2.1⟩, ?_⟩
  have args := ha.run cpos pins s1 σ H1 _ J1 q1
  rw [hs] at args ⊢
  refine Calls.callWith_builtin (by show (false || (backTo cpos (starEach es X.env)).any (·.1)) = false; rw [plain]; rfl) (Calls.evalArgs_plain ?_)
  exact thn args fun us s2 ⟨ws, H2, J2, r2, q2⟩ => mt_tup_index pins s2 σ H2 (.ref p) ws _ us Q J2 rfl r2 q2⟩
end
end GX
namespace G
open PySem L2
section
variable {Z : Wd} {M H : Hp} {δ : List S} {ta tb te : TE} {ts : TA} {Φ : D → List S → Prop} {B : Bas} {W : List (Nat × Addr)} {σ : St}
theorem At.wk {v : V} {xs : List D} (a : At Z M v (.tupF xs)) : At Z M v (.tup xs) := by
  cases a with
  | tupF h _ _ l k => exact .tup (.inl (.inr ⟨_, h⟩)) l k
/-- as a plain tuple -/
theorem xe_wk (h : XE Z te δ fun d δ1 => ∃ xs, d = .tupF xs ∧ Φ (.tup xs) δ1) : XE Z te δ Φ := XE.mk fun B W M H σ Q I q =>
  h.run I fun M1 H1 δ1 x a h1 e1 I1 at1 => by
    obtain ⟨xs, rfl, f⟩ := h1
    exact q M1 H1 δ1 _ _ f e1 I1 at1.wk
theorem newF {p : Addr} {o : PySem.Obj} {vs : List V} {xs : List D} {δ1 : List S} {Q : VK} {M1 H1 : Hp} (I1 : I3 Z B W M1 H1 σ δ1) (hp : H1 p = none) (bo : GX.Bare o) (al : AtL Z M1 vs xs) (f : Φ (.tupF xs) δ1) (e : Ex M M1)
    (q : ∀ M' H' δ' v d, Φ d δ' → Ex M M' → I3 Z B W M' H' σ δ' → At Z M' v d → Q v H') : Q (.ref p) (upd H1 p (.frz o (.tup vs))) :=
  have hm := I1.ex.free hp
  q _ _ δ1 _ _ f (e.tr (Ex.new hm)) (I1.grow hp) (.tupF upd_same bo.1 bo.2 al.len (al.mono (Ex.new hm)).at')
theorem xe_tupleF (h : XE Z te δ fun d δ1 => ∃ xs, d = .lst xs ∧ Φ (.tupF xs) δ1) : XE Z (tCB (GX.rTupleF Z.K) (tCons te tNil)) δ Φ := XE.mk fun B W M H σ Q I q =>
  h.run I fun M1 H1 δ1 x a h1 e1 I1 at1 => by
    obtain ⟨xs, rfl, f⟩ := h1
    cases at1 with
    | lst k l c => exact ⟨_, _, rfl, SqL.of (I1.ex _ _ k), fun p o hp bo => newF I1 hp bo ⟨l, c⟩ f e1 q⟩
theorem idx_first : ∀ {l : List Str} {m : Nat} {x : Str}, m < l.idxOf x → l[m]? ≠ some x
  | [], m, x, h => by simp at h
  | a :: l, m, x, h => by
    rw [List.idxOf_cons] at h
    by_cases e : a == x
    · simp [e] at h
    · cases m with
      | zero => simpa using fun q => e (by simp [q])
      | succ m => simpa using idx_first (l := l) (by simpa [e] using h)
theorem xe_tupIx (h : XE Z ta δ fun d δ1 => ∃ ys : List Str, d = .tupF (ys.map .str) ∧ XE Z te δ1 fun b δ2 => ∃ z : Str, b = .str z ∧ z ∈ ys ∧ Φ (.int (ys.idxOf z : Nat)) δ2) : XE Z (GX.tTupIx Z.K ta (tCons te tNil)) δ Φ := XE.mk fun B W M H σ Q I q =>
  h.run I fun M1 H1 δ1 x a h1 e1 I1 at1 => by
    obtain ⟨ys, rfl, h2⟩ := h1
    cases at1 with
    | @tupF p o vs _ k c d l al =>
      refine ⟨⟨p, o, vs, rfl, I1.ex _ _ k, c, d⟩, h2.run I1 fun M2 H2 δ2 y b h3 e2 I2 at2 => ?_⟩
      obtain ⟨z, rfl, hz, f⟩ := h3
      cases at2
      have hv : vs = ys.map V.str := AtL.strs (Z := Z) (M := M1) ⟨l, al⟩
      subst hv
      refine ⟨p, ys, z, ys.idxOf z, rfl, rfl, sqT_mono I2.ex (.inl (.inr ⟨o, e2 _ _ k⟩)), ?_, fun m hm => idx_first hm, q M2 H2 δ2 _ _ f (e1.tr e2) I2 .int⟩
      rw [List.getElem?_eq_getElem (List.idxOf_lt_length_of_mem hz), List.getElem_idxOf]
end
end G
set_option Elab.async false
set_option linter.all false
set_option maxRecDepth 100000
/-! comparing by an own __eq__, `!=` by the default __ne__, str by an own __str__ -/
namespace GX
open PySem PySem.Spec L2
section
variable {X : Cx} {CX : CXT} {k : Nat} {C f : Addr} {fd : FuncData} {ps : List Str} {sp : Sp} {E : XK} {pins : List (Addr × Obj)} {σ : St} {H : Hp} {s : Shared}
/-- no __ne__ but the one of all objects -/
structure NoNe (K : PySem.W.Frag) (C : Addr) : Prop where
  find : PySem.W.findIn K (.ref C) "__ne__" = some (some (.builtin "object.__ne__"))
  sub : PySem.W.subIn K (.ref C) (.type "object") = some true
end
end GX
namespace G
open PySem L2
def er (M : Hp) (p : Addr) : Hp := fun a => if a = p then none else M a
end G
namespace GX
open PySem L2
end GX
namespace G
open PySem L2
end G
namespace G
open PySem L2
end G
set_option Elab.async false
set_option linter.all false
set_option maxRecDepth 100000
/-! == of tuples whose items are compared by an own __eq__ -/
namespace GX
open PySem PySem.Spec PySem.SeqAt L2
open AutoSeq1 (wpAny_loadPart')
open MeetsSeq MeetsSeq2 MeetsSeq3 SeqRoads2
end GX
namespace GX
open PySem PySem.Spec L2
end GX
namespace G
open PySem L2
section
variable {Z : Wd} {M H H' : Hp} {δ : List S} {ta tb : TE} {Φ : D → List S → Prop} {E : XK} {F : FR} {σ : St} {B : Bas} {W : List (Nat × Addr)}
theorem I3.ext (I : I3 Z B W M H σ δ) (x : Ex H H') : I3 Z B W M H' σ δ := I.after Ex.rfl' (I.ex.tr x) x fun _ _ _ h _ => h
end
end G
set_option Elab.async false
set_option linter.all false
set_option maxRecDepth 100000
/-! != of tuples whose items are compared by an own __eq__; len of an instance by an own __len__ -/
namespace GX
open PySem PySem.Spec PySem.SeqAt L2
open AutoSeq1 (wpAny_loadPart')
open MeetsSeq MeetsSeq2 MeetsSeq3 SeqRoads2
end GX
namespace GX
open PySem PySem.Spec L2
end GX
namespace G
open PySem L2
end G
set_option Elab.async false
set_option linter.all false
set_option maxRecDepth 100000
/-! x[i], x + y by the own methods of a class -/
namespace GX
open PySem PySem.Spec L2
open PyProof.Rows (Subscript_)
end GX
namespace G
open PySem L2
end G
set_option Elab.async false
set_option linter.all false
set_option maxRecDepth 100000
/-! x[i] and o.m(..) by own methods that may raise -/
namespace GX
open PySem PySem.Spec L2
open PyProof.Rows (Subscript_)
end GX
namespace G
open PySem L2
end G
set_option Elab.async false
set_option linter.all false
set_option maxRecDepth 100000
/-! x += y by an own __add__ of a class without an own __iadd__ -/
namespace GX
open PySem PySem.Spec L2
end GX
namespace G
open PySem L2
end G
set_option Elab.async false
set_option linter.all false
set_option maxRecDepth 100000
set_option maxHeartbeats 4000000
/-! a, *b = a list; split; class methods; classes held in a variable -/
namespace GX
open PySem PySem.Spec PyProof.Rows L2
end GX
namespace G
open PySem L2
end G
set_option Elab.async false
set_option linter.all false
set_option maxRecDepth 100000
set_option maxHeartbeats 4000000
/-! {e for x in xs if ..}, {e for x in xs for y in ys}: sets of ints, built while other sources are walked -/
namespace GX
open PySem PySem.Spec PyProof.Rows L2 PpSet
/-- what is left to do at the set D once the source J has come: from H on, at slots σ, until Qd -/
abbrev SetJob := It → Addr → Hp → L2.St → (Hp → Prop) → Prop
/-- y joins the set at D, then go on -/
def joins (w : World) (D : Addr) (y : V) (H : Hp) (on : Hp → Prop) : Prop := ∃ (k : Int) (S : Int → Bool) (c : Nat), y = .int k ∧ H D = some (SetO w D S c) ∧ c + 1 < scanBound ∧ on (upd H D (SetO w D (fun j => S j || decide (j = k)) (if S k = true then c else c + 1)))
/-- the source J yields n times -/
def walks (J : It) (n : Nat) (Pv : Nat → Hp → Prop) (H0 : Hp) (Qd : Hp → Prop) (turn : Nat → V → Hp → Prop) : Prop := Pv 0 H0 ∧ (∀ i H, i < n → Pv i H → J.go i H ∧ ∀ x H1, J.yld i H x H1 → turn i x H1) ∧ ∀ H, Pv n H → J.stop n H ∧ Qd H
def job1 (w : World) (g : TG) (tt : TT) (te : TE) (vs : List Nat) : SetJob := fun J D H0 σ0 Qd => ∃ (n : Nat) (Pv : Nat → Hp → Prop), walks J n Pv H0 Qd fun i x H1 => g x σ0 H1 fun σ2 H2 => wipe σ2 vs = σ0 ∧ tt σ2 H2 fun b H3 => if b = true then te σ2 H3 fun y H4 => joins w D y H4 (Pv (i + 1)) else Pv (i + 1) H3
def job2 (w : World) (g : TG) (wi1 : TI) (g1 : TG) (te : TE) (vs vs1 : List Nat) : SetJob := fun J D H0 σ0 Qd => ∃ (n : Nat) (Pv : Nat → Hp → Prop), walks J n Pv H0 Qd fun i x H1 => g x σ0 H1 fun σ2 H2 => wipe σ2 vs = σ0 ∧ wi1 σ2 H2 fun J1 H3 =>
  ∃ (n1 : Nat) (Pw : Nat → Hp → Prop), walks J1 n1 Pw H3 (Pv (i + 1)) fun j x1 H4 => g1 x1 (wipe σ2 vs1) H4 fun σ3 H5 => wipe σ3 vs1 = wipe σ2 vs1 ∧ te σ3 H5 fun y H6 => joins w D y H6 (Pw (j + 1))
/-- a set comprehension as a value -/
def tSetC (w : World) (wi : TI) (vs : List Nat) (job : SetJob) : TE := fun σ H Q => wi σ H fun J H1 => ∀ D, H1 D = none → job J D (upd H1 D (SetO w D (fun _ => false) 0)) (wipe σ vs) fun H2 => Q (.ref D) H2
/-- the block's own loop does the job -/
def Does (X : Cx) (tg e : Expr) (scope : Scope) (job : SetJob) : Prop := ∀ (s3 : Shared) (H3 : Hp) (C : Addr) (cl : List (PySem.Str × Addr)) (fp : List Addr) (it D : Addr) (J : It) (tn : Nat → Heap → Prop) (s4 : Shared) (σ4 : L2.St) (H4 : Hp) (Qd : Hp → Prop) (post : Result → Shared → Prop),
  X.calm = true → Turn X.prog X.w X.K tg J fp it tn → (∀ (σ' : L2.St) (H' : Hp) (s' : Shared), Inv (X.blk s3 H3 scope (compEnvC scope cl C X.env) fp) [] σ' H' s' → (∀ b ∈ fp, H' b = none) → ∀ b ∈ fp, FpOk (X.blk s3 H3 scope (compEnvC scope cl C X.env) fp) [] H' b) →
  Inv (X.blk s3 H3 scope (compEnvC scope cl C X.env) fp) [] σ4 H4 s4 → tn 0 s4.heap → (∀ b ∈ fp, H4 b = none) → job J D H4 σ4 Qd → (∀ s' H', Inv (X.blk s3 H3 scope (compEnvC scope cl C X.env) fp) [] σ4 H' s' → Qd H' → post (.ok .next) s') →
  codeAny (model X.prog X.w) X.A (.compLoop e 0 (.ref it) (.ref D) (compEnvC scope cl C X.env)) post s4
section
variable {X : Cx}
theorem join_set {pins : List (Addr × Obj)} {s : Shared} {σ : L2.St} {H : Hp} {D : Addr} {y : V} {u : Value} {on : Hp → Prop} {E : Value → Shared → Prop} (I : Inv X pins σ H s) (r : RelV y u) (h : joins X.w D y H on) :
    wpAny (model X.prog X.w) X.A (call (.builtin "set.add") [.ref D, u]) (fun _ s' => ∃ H', Inv X pins σ H' s' ∧ on H') E s := by
  obtain ⟨k, S, c, rfl, hD, room, next⟩ := h
  obtain ⟨tk, rfl⟩ := r
  have here := setO_get I hD
  refine setR_add here room fun h' only new => ?_
  obtain ⟨o, _, _, _, ho, _⟩ := id new
  exact ⟨_, I.write (e := D) (t' := s.toks + 1) (by rw [hD]; trivial) (.inl rfl) (fun b v ne hv => (only.2 b ne).trans hv) ⟨o, ho⟩ (setO_new new), next⟩
theorem blk_here {s3 : Shared} {H3 : Hp} {scope : Scope} {C : Addr} {cl : List (PySem.Str × Addr)} {fp : List Addr} (σ' : L2.St) (H' : Hp) (s' : Shared) (J' : Inv (X.blk s3 H3 scope (compEnvC scope cl C X.env) fp) [] σ' H' s') (none' : ∀ b ∈ fp, H' b = none) :
    ∀ b ∈ fp, FpOk (X.blk s3 H3 scope (compEnvC scope cl C X.env) fp) [] H' b := fun b hb =>
  ⟨none' b hb, (J'.ok.exf b hb).1, J'.ok.exfs b hb, .inl hb, fun x c e => (J'.ok.exf b hb).2 x c e, fun p hp => absurd (show p ∈ ([] : List (Addr × Obj)) ++ [] from hp) (by simp)⟩
theorem pe_setC {elt tg iter : Expr} {ifs : List Expr} {more : List Comprehension} {scope : Scope} {own : List (PySem.Str × Nat)} {pos : Pos} {wi : TI} {job : SetJob} (calm : X.calm = true) (nd : X.N.Nodup) (src : PI X tg iter wi) (blk : BlkOk X.N X.env.scope scope own)
    (does : Does X tg (.SetComp elt (⟨tg, iter, ifs, 0⟩ :: more) scope pos) scope job) (plain : ∀ x, foldedSetIterable iter X.env x = pure x := by intro _; rfl) : PE X (.SetComp elt (⟨tg, iter, ifs, 0⟩ :: more) scope pos) (tSetC X.w wi (own.map (·.2)) job) := by
  refine ⟨fun pins s σ H Q I want => ?_⟩
  have frees : ∀ y ∈ scope.names, y.2 = .free → ∃ c, X.env.cells.lookup y.1 = some c := fun y hy e => (blk.free y hy e).elim (fun k => I.ok.has _ (.inl k)) fun k => I.ok.has _ (.inr k)
  show wpAny _ _ (comprehension _ scope X.env (firstIterPos _ pos) (newSet (.type "set")) false (eval iter X.env) none) _ _ s
  refine wpAny_comprehension_free (use := none) rfl plain (closure_ok frees) blk.kind (fun y hy e => by rw [blk.uniq y hy, e]) (thn (src.run pins s σ H _ I want) fun _ _ first => thn first fun _ s2 came => ?_)
  obtain ⟨it, fp, tn, J, H2, rfl, I2, T, t0, clear, job⟩ := came
  refine newSet_ok (newEnv_comp ?_)
  have dn : H2 s2.heap.objs.size = none := I2.hok.fresh (Nat.le_refl _)
  have job := job _ dn
  have I3 := I2.laid (h' := s2.heap.push { cls := .type "set", dict := none, data := .set #[] 0 (.fresh 0 0 (!X.w.params.followText "set-order")) }) (t' := s2.toks) (fun _ _ e => Heap.get?_push_of_some _ e) (Nat.le_refl _) (setO_new (P := X.prog) (H := upd H2 s2.heap.objs.size (SetO X.w s2.heap.objs.size (fun _ => false) 0)) (setR_fresh X.w))
  have old : ∀ b ∈ fp, b < s2.heap.objs.size := fun b hb => by obtain ⟨o, e, _⟩ := T.obj _ _ t0 b hb; exact Heap.lt_size e
  have clear3 : ∀ b ∈ fp, FpOk X pins (upd H2 s2.heap.objs.size (SetO X.w s2.heap.objs.size (fun _ => false) 0)) b ∧ b < (s2.heap.push { cls := .type "set", dict := none, data := .set #[] 0 (.fresh 0 0 (!X.w.params.followText "set-order")) }).objs.size := fun b hb =>
    ⟨⟨by rw [upd_ne (Nat.ne_of_lt (old b hb))]; exact (clear b hb).1, (clear b hb).2⟩, by rw [Heap.size_push]; exact Nat.lt_succ_of_lt (old b hb)⟩
  have t3 : tn 0 (s2.heap.push { cls := .type "set", dict := none, data := .set #[] 0 (.fresh 0 0 (!X.w.params.followText "set-order")) }) := T.keep _ _ _ t0 fun b _ o e => Heap.get?_push_of_some _ e
  have I4 := block_start I3 blk nd clear3
  have t4 : tn 0 (pushCells ((s2.heap.push { cls := .type "set", dict := none, data := .set #[] 0 (.fresh 0 0 (!X.w.params.followText "set-order")) }).push { cls := .type "dict", data := .dict #[] }) scope.names) := T.keep _ _ _ t3 fun b _ o e => pushCells_keeps _ _ _ _ (Heap.get?_push_of_some _ e)
  refine codeAny_compStart_set ?run (T.self X.A 0 _ _ _ t4 ?run)
  refine does _ _ _ _ fp it _ J tn _ _ _ _ _ calm T blk_here I4 t4 (fun b hb => (clear3 b hb).1.1) job fun s' H' J' done => ?_
  -- the block ends
  have I7 : Inv X pins σ H' s' := I3.call' (ch := fp) J'.os J'.base J'.hok J'.bare fun b hb => ⟨(clear3 b hb).1.2.2.2.1, (clear3 b hb).1.2.1, (clear3 b hb).1.2.2.2.2.1, (clear3 b hb).1.2.2.2.2.2⟩
  obtain ⟨m, ns, _⟩ := J'.loc
  have gap : H' (s2.heap.push { cls := .type "set", dict := none, data := .set #[] 0 (.fresh 0 0 (!X.w.params.followText "set-order")) }).objs.size = none := J'.free
  obtain ⟨f0, f1, f2, f3, f4, f5⟩ := I3.fpOk (Nat.le_refl _) gap
  exact ⟨m, ns, fun h'' sb => ⟨.ref s2.heap.objs.size, H', I7.turned (t' := s'.toks) (fun b o hb e => (sb.2 b hb).trans e) f0 f1 f3 f4 f5, rfl, done⟩⟩
section
variable {elt tg iter : Expr} {scope : Scope} {pos : Pos} {g : TG} {tt : TT} {te : TE} {vs : List Nat}
theorem does1 {ifs : List Expr} (pg : ∀ (s : Shared) (H : Hp) (C : Addr) (cl : List (PySem.Str × Addr)) (fp : List Addr), PG (X.blk s H scope (compEnvC scope cl C X.env) fp) tg g) (pt : ∀ (s : Shared) (H : Hp) (C : Addr) (cl : List (PySem.Str × Addr)) (fp : List Addr), PTs (X.blk s H scope (compEnvC scope cl C X.env) fp) ifs tt)
    (pe : ∀ (s : Shared) (H : Hp) (C : Addr) (cl : List (PySem.Str × Addr)) (fp : List Addr), PE (X.blk s H scope (compEnvC scope cl C X.env) fp) elt te) : Does X tg (.SetComp elt [⟨tg, iter, ifs, 0⟩] scope pos) scope (job1 X.w g tt te vs) := by
  rintro s3 H3 C cl fp it D J tn s4 σ4 H4 Qd post calm T here I4 t4 none4 ⟨n, Pv, p0, turn, stop⟩ fin
  refine compLoopS_any (fun k s' => ∃ i H', k = n - i ∧ i ≤ n ∧ Inv (X.blk s3 H3 scope (compEnvC scope cl C X.env) fp) [] σ4 H' s' ∧ tn i s'.heap ∧ (∀ b ∈ fp, H' b = none) ∧ Pv i H') ?_ n ⟨0, H4, rfl, Nat.zero_le _, I4, t4, none4, p0⟩
  rintro k s5 ⟨i, H5, rfl, le, I5, t5, none5, p5⟩
  rcases Nat.eq_or_lt_of_le le with rfl | lt
  · obtain ⟨st, qd⟩ := stop H5 p5
    exact thnF (T.done (X.blk s3 H3 scope (compEnvC scope cl C X.env) fp) rfl rfl rfl calm i [] s5 _ H5 (fun _ _ => False) I5 (here _ _ _ I5 none5) t5 st) fun r s6 ⟨hr, I6⟩ => by subst hr; exact fin _ _ I6 qd
  · obtain ⟨go, step⟩ := turn i H5 lt p5
    refine thnF (T.item (X.blk s3 H3 scope (compEnvC scope cl C X.env) fp) rfl rfl rfl calm i [] s5 _ H5 (fun _ _ => False) I5 (here _ _ _ I5 none5) t5 go) fun r s6 ⟨u, hr, came⟩ => ?_
    subst hr
    refine thnF came fun _ s7 ⟨x, H7, I7, r7, y7, t7, none7⟩ => ?_
    refine thnF ((pg s3 H3 C cl fp).run _ s7 _ H7 x u _ (I7.pinned (here _ _ _ I7 none7) (T.obj _ _ t7)) r7 (step x H7 y7)) fun _ s8 ⟨σ8, H8, I8, same, q8⟩ => ?_
    -- the turn ends
    have next : ∀ {s' : Shared} {H' : Hp}, Inv (X.blk s3 H3 scope (compEnvC scope cl C X.env) fp) ([] ++ pinsAt fp s7.heap) σ8 H' s' → Pv (i + 1) H' → ∃ m, m < n - i ∧ ∃ i' H', m = n - i' ∧ i' ≤ n ∧ Inv (X.blk s3 H3 scope (compEnvC scope cl C X.env) fp) [] σ4 H' s' ∧ tn i' s'.heap ∧ (∀ b ∈ fp, H' b = none) ∧ Pv i' H' := fun {s' H'} J' p' => by
      have stay : ∀ b ∈ fp, ∀ o, s7.heap.get? b = some o → s'.heap.get? b = some o ∧ H' b = none := fun b hb o e => let z := J'.pin (b, o) (List.mem_append_right _ (List.mem_append_right _ (mem_pinsAt hb e))); ⟨z.1, z.2.1⟩
      refine ⟨n - (i + 1), by omega, i + 1, H', rfl, lt, (J'.unpinned (pins := [])).weak (by rw [← same, wipe_length]) (fun j v e => by rw [← same] at e; exact (wipe_some e).1), T.keep _ _ _ t7 fun b hb o e => (stay b hb o e).1, fun b hb => ?_, p'⟩
      obtain ⟨o, e, _⟩ := T.obj _ _ t7 b hb
      exact (stay b hb o e).2
    refine thnF ((pt s3 H3 C cl fp).run _ s8 σ8 H8 _ I8 q8) fun b s9 ⟨H9, I9, q9⟩ => ?_
    cases b with
    | false => exact next I9 q9
    | true => exact thnF ((pe s3 H3 C cl fp).run _ s9 σ8 H9 _ I9 q9) fun z s10 ⟨y, H10, I10, r10, jn⟩ => join_set (X := X.blk s3 H3 scope (compEnvC scope cl C X.env) fp) (E := fun _ _ => False) I10 r10 jn |> fun w => thnF w fun _ s11 ⟨H11, I11, p11⟩ => next I11 p11
end
end
end GX
set_option Elab.async false
set_option linter.all false
set_option maxRecDepth 100000
set_option maxHeartbeats 4000000
/-! {e for x in xs for y in ys} -/
namespace GX
open PySem PySem.Spec PyProof.Rows L2 PpSet
section
variable {prog : Program} {w : World} {A : Around} {R : Result → Shared → Prop} {s : Shared} {elt t0 i0 t1 i1 : Expr} {scope : Scope} {pos : Pos} {it acc : Value} {env : Env}
/-- {elt for t0 in i0 for t1 in i1} -/
abbrev twice (elt t0 i0 t1 i1 : Expr) (scope : Scope) (pos : Pos) : Expr := .SetComp elt [⟨t0, i0, [], 0⟩, ⟨t1, i1, [], 0⟩] scope pos
theorem outer_turn : compTurn (twice elt t0 i0 t1 i1 scope pos) 0 it acc env = (do
      standAt i0.pos; match ← pyNext it with
      | none => pure (.done .next)
      | some v => letOwnedTupleGo t0 it v; assign t0 env v; let mut ok := true
                  for c in ([] : List Expr) do if ok then ok ← isTrue c env (eval c env)
                  if ok then let x ← eval i1 env; standAt i1.pos; let x ← foldedSetIterable i1 env x; let _ ← runOwn (.compStart (twice elt t0 i0 t1 i1 scope pos) 1 (← holding [x] (pyIter x)) acc env) env
                  again (.compLoop (twice elt t0 i0 t1 i1 scope pos) 0 it acc env)) := by rfl
theorem inner_turn : compTurn (twice elt t0 i0 t1 i1 scope pos) 1 it acc env = (do
      standAt i1.pos; match ← pyNext it with
      | none => pure (.done .next)
      | some v => letOwnedTupleGo t1 it v; assign t1 env v; let mut ok := true
                  for c in ([] : List Expr) do if ok then ok ← isTrue c env (eval c env)
                  if ok then (do let v ← eval elt env; standAt elt.pos; let _ ← call (.builtin "set.add") [acc, v])
                  again (.compLoop (twice elt t0 i0 t1 i1 scope pos) 1 it acc env)) := by rfl
/-- an error of the loop, noted -/
abbrev bad (M : Model) (A : Around) (env : Env) (R : Result → Shared → Prop) : Value → Shared → Prop := notedBy M A env fun e s' => R (.error e) s'
theorem outer_loop (plain : ∀ x, foldedSetIterable i1 env x = pure x) (I : Nat → Shared → Prop)
    (turn : ∀ n s, I n s → wpAny (model prog w) A (pyNext it) (fun r s1 => match r with
      | none => R (.ok .next) s1
      | some v => wpAny (model prog w) A (letOwnedTupleGo t0 it v) (fun _ s2 => wpAny (model prog w) A (assign t0 env v) (fun _ s3 => wpAny (model prog w) A (eval i1 env) (fun x s4 => wpAny (model prog w) A (pyIter x) (fun k s5 =>
          codeAny (model prog w) A (.compStart (twice elt t0 i0 t1 i1 scope pos) 1 k acc env) (fun r s' => (∃ f, r = .ok f) ∧ ∃ m, m < n ∧ I m s') s5) (bad (model prog w) A env R) s4) (bad (model prog w) A env R) s3) (bad (model prog w) A env R) s2) (bad (model prog w) A env R) s1) (bad (model prog w) A env R) s)
    (n : Nat) (h : I n s) : codeAny (model prog w) A (.compLoop (twice elt t0 i0 t1 i1 scope pos) 0 it acc env) R s := by
  refine codeAny_loop rfl I (fun n s hI => ?_) n h
  show wpAny _ A ((compTurn (twice elt t0 i0 t1 i1 scope pos) 0 it acc env).onRaise fun x => do noteFrame x env; theTreesLotGoes x) _ _ s
  refine wpAny_noted ?_
  rw [outer_turn]
  refine wpAny_bind (wpAny_standAt (wpAny_bind (wpAny_mono (turn n s hI) (fun r s1 h1 => ?_) fun _ _ z => z)))
  cases r with
  | none => exact wpAny_pure h1
  | some v =>
    refine wpAny_bind (wpAny_mono h1 (fun _ s2 h2 => wpAny_bind (wpAny_mono h2 (fun _ s3 h3 => ?_) fun _ _ z => z)) fun _ _ z => z)
    refine wpAny_bind (wpAny_pure ?_)
    refine wpAny_bind (wpAny_mono h3 (fun x s4 h4 => ?_) fun _ _ z => z)
    refine wpAny_bind (wpAny_standAt (wpAny_bind (wpAny_of_eq (plain x) (wpAny_bind (wpAny_holding (wpAny_mono h4 (fun k s5 h5 => ?_) fun _ _ z => z))))))
    refine wpAny_bind (wpAny_runOwn ?_)
    rw [Around.mark_none]
    refine codeAny_mono h5 fun r s6 hr => ?_
    obtain ⟨⟨f, rfl⟩, hr⟩ := hr
    first
    | exact wpAny_pure ⟨rfl, hr⟩
    | exact wpAny_bind (wpAny_pure (wpAny_pure ⟨rfl, hr⟩))
theorem inner_loop (I : Nat → Shared → Prop)
    (turn : ∀ n s, I n s → wpAny (model prog w) A (pyNext it) (fun r s1 => match r with
      | none => R (.ok .next) s1
      | some v => wpAny (model prog w) A (letOwnedTupleGo t1 it v) (fun _ s2 => wpAny (model prog w) A (assign t1 env v) (fun _ s3 => wpAny (model prog w) A (eval elt env) (fun x s4 =>
          wpAny (model prog w) A (call (.builtin "set.add") [acc, x]) (fun _ s5 => ∃ m, m < n ∧ I m s5) (bad (model prog w) A env R) s4) (bad (model prog w) A env R) s3) (bad (model prog w) A env R) s2) (bad (model prog w) A env R) s1) (bad (model prog w) A env R) s)
    (n : Nat) (h : I n s) : codeAny (model prog w) A (.compLoop (twice elt t0 i0 t1 i1 scope pos) 1 it acc env) R s := by
  refine codeAny_loop rfl I (fun n s hI => ?_) n h
  show wpAny _ A ((compTurn (twice elt t0 i0 t1 i1 scope pos) 1 it acc env).onRaise fun x => do noteFrame x env; theTreesLotGoes x) _ _ s
  refine wpAny_noted ?_
  rw [inner_turn]
  refine wpAny_bind (wpAny_standAt (wpAny_bind (wpAny_mono (turn n s hI) (fun r s1 h1 => ?_) fun _ _ z => z)))
  cases r with
  | none => exact wpAny_pure h1
  | some v =>
    refine wpAny_bind (wpAny_mono h1 (fun _ s2 h2 => wpAny_bind (wpAny_mono h2 (fun _ s3 h3 => ?_) fun _ _ z => z)) fun _ _ z => z)
    refine wpAny_bind (wpAny_pure ?_)
    exact wpAny_bind (wpAny_bind (wpAny_mono h3 (fun x s4 h4 => wpAny_bind (wpAny_standAt (wpAny_bind (wpAny_mono h4 (fun _ s5 h5 => wpAny_pure (wpAny_pure ⟨rfl, h5⟩)) fun _ _ z => z)))) fun _ _ z => z))
theorem inner_start (h0 : codeAny (model prog w) A (.compLoop (twice elt t0 i0 t1 i1 scope pos) 1 it acc env) R s)
    (h : wpAny (model prog w) A (pyIter it) (fun k s' => codeAny (model prog w) A (.compLoop (twice elt t0 i0 t1 i1 scope pos) 1 k acc env) R s') (bad (model prog w) A env R) s) : codeAny (model prog w) A (.compStart (twice elt t0 i0 t1 i1 scope pos) 1 it acc env) R s := by
  refine codeAny_of_tree ?_
  show wpAny _ _ ((compStart (twice elt t0 i0 t1 i1 scope pos) 1 it acc env).onRaise fun x => do noteFrame x env; standAt theWindowsPlace) _ _ s
  refine wpAny_notedAt ?_
  unfold compStart
  refine wpAny_bind (wpAny_askSetting (wpAny_ite ?_))
  split
  · first
    | exact wpAny_bind (wpAny_pure (wpAny_pure ⟨rfl, h0⟩))
    | exact wpAny_pure ⟨rfl, h0⟩
  · refine wpAny_bind (wpAny_rule ?_)
    first
    | exact wpAny_bind (wpAny_standAt (wpAny_bind (wpAny_mono h (fun k s' z => wpAny_pure ⟨rfl, z⟩) fun _ _ z => z)))
    | (show wpAny _ _ (standAt i1.pos >>= _) _ _ s; exact wpAny_bind (wpAny_standAt (wpAny_bind (wpAny_mono h (fun k s' z => wpAny_pure ⟨rfl, z⟩) fun _ _ z => z))))
end
section
variable {X : Cx} {elt t0 i0 t1 i1 : Expr} {scope : Scope} {pos : Pos} {g g1 : TG} {wi1 : TI} {te : TE} {vs vs1 : List Nat}
theorem does2 (pg : ∀ (s : Shared) (H : Hp) (C : Addr) (cl : List (PySem.Str × Addr)) (fp : List Addr), PG (X.blk s H scope (compEnvC scope cl C X.env) fp) t0 g) (pi1 : ∀ (s : Shared) (H : Hp) (C : Addr) (cl : List (PySem.Str × Addr)) (fp : List Addr), PI (X.blk s H scope (compEnvC scope cl C X.env) fp) t1 i1 wi1)
    (pg1 : ∀ (s : Shared) (H : Hp) (C : Addr) (cl : List (PySem.Str × Addr)) (fp : List Addr), PG (X.blk s H scope (compEnvC scope cl C X.env) fp) t1 g1) (pe : ∀ (s : Shared) (H : Hp) (C : Addr) (cl : List (PySem.Str × Addr)) (fp : List Addr), PE (X.blk s H scope (compEnvC scope cl C X.env) fp) elt te)
    (sub : ∀ i ∈ vs1, i ∈ vs) (plain : ∀ env x, foldedSetIterable i1 env x = pure x := by intro _ _; rfl) : Does X t0 (twice elt t0 i0 t1 i1 scope pos) scope (job2 X.w g wi1 g1 te vs vs1) := by
  rintro s3 H3 C cl fp it D J tn s4 σ4 H4 Qd post calm T here I4 t4 none4 ⟨n, Pv, p0, turn, stop⟩ fin
  refine outer_loop (plain _) (fun k s' => ∃ i H', k = n - i ∧ i ≤ n ∧ Inv (X.blk s3 H3 scope (compEnvC scope cl C X.env) fp) [] σ4 H' s' ∧ tn i s'.heap ∧ (∀ b ∈ fp, H' b = none) ∧ Pv i H') ?_ n ⟨0, H4, rfl, Nat.zero_le _, I4, t4, none4, p0⟩
  rintro k s5 ⟨i, H5, rfl, le, I5, t5, none5, p5⟩
  rcases Nat.eq_or_lt_of_le le with rfl | lt
  · obtain ⟨st, qd⟩ := stop H5 p5
    exact thnF (T.done (X.blk s3 H3 scope (compEnvC scope cl C X.env) fp) rfl rfl rfl calm i [] s5 _ H5 (fun _ _ => False) I5 (here _ _ _ I5 none5) t5 st) fun r s6 ⟨hr, I6⟩ => by subst hr; exact fin _ _ I6 qd
  · obtain ⟨go, step⟩ := turn i H5 lt p5
    refine thnF (T.item (X.blk s3 H3 scope (compEnvC scope cl C X.env) fp) rfl rfl rfl calm i [] s5 _ H5 (fun _ _ => False) I5 (here _ _ _ I5 none5) t5 go) fun r s6 ⟨u, hr, came⟩ => ?_
    subst hr
    refine thnF came fun _ s7 ⟨x, H7, I7, r7, y7, t7, none7⟩ => ?_
    refine thnF ((pg s3 H3 C cl fp).run _ s7 _ H7 x u _ (I7.pinned (here _ _ _ I7 none7) (T.obj _ _ t7)) r7 (step x H7 y7)) fun _ s8 ⟨σ8, H8, I8, same, q8⟩ => ?_
    refine thnF ((pi1 s3 H3 C cl fp).run _ s8 σ8 H8 _ I8 q8) fun _ s9 q9 => thnF q9 fun _ s10 came1 => ?_
    obtain ⟨it1, fp1, tn1, J1, H10, rfl, I10, T1, t10, clear1, n1, Pw, w0, turn1, stop1⟩ := came1
    have here1 : ∀ {H' : Hp}, (∀ b ∈ fp1, H' b = none) → ∀ b ∈ fp1, FpOk (X.blk s3 H3 scope (compEnvC scope cl C X.env) fp) ([] ++ pinsAt fp s7.heap) H' b := fun z b hb => ⟨z b hb, (clear1 b hb).2⟩
    have loop1 : codeAny (model X.prog X.w) X.A (.compLoop (twice elt t0 i0 t1 i1 scope pos) 1 (.ref it1) (.ref D) (compEnvC scope cl C X.env))
        (fun r s' => (∃ f, r = .ok f) ∧ ∃ m, m < n - i ∧ ∃ i' H', m = n - i' ∧ i' ≤ n ∧ Inv (X.blk s3 H3 scope (compEnvC scope cl C X.env) fp) [] σ4 H' s' ∧ tn i' s'.heap ∧ (∀ b ∈ fp, H' b = none) ∧ Pv i' H') s10 := by
      refine inner_loop (fun k s' => ∃ j H', k = n1 - j ∧ j ≤ n1 ∧ Inv (X.blk s3 H3 scope (compEnvC scope cl C X.env) fp) ([] ++ pinsAt fp s7.heap) (wipe σ8 vs1) H' s' ∧ tn1 j s'.heap ∧ (∀ b ∈ fp1, H' b = none) ∧ Pw j H') ?_ n1 ⟨0, H10, rfl, Nat.zero_le _, I10.weak (wipe_length _ _) fun j v e => (wipe_some e).1, t10, fun b hb => (clear1 b hb).1, w0⟩
      rintro k s12 ⟨j, H12, rfl, le1, I12, t12, none12, p12⟩
      rcases Nat.eq_or_lt_of_le le1 with rfl | lt1
      · obtain ⟨st1, p'⟩ := stop1 H12 p12
        refine thnF (T1.done (X.blk s3 H3 scope (compEnvC scope cl C X.env) fp) rfl rfl rfl calm j _ s12 (wipe σ8 vs1) H12 (fun _ _ => False) I12 (here1 none12) t12 st1) fun r s13 ⟨hr, I13⟩ => ?_
        subst hr
        have stay : ∀ b ∈ fp, ∀ o, s7.heap.get? b = some o → s13.heap.get? b = some o ∧ H12 b = none := fun b hb o e => let z := I13.pin (b, o) (List.mem_append_right _ (List.mem_append_right _ (mem_pinsAt hb e))); ⟨z.1, z.2.1⟩
        refine ⟨⟨_, rfl⟩, n - (i + 1), by omega, i + 1, H12, rfl, lt, (I13.unpinned (pins := [])).weak (by rw [← same, wipe_length, wipe_length]) (fun j v e => ?_), T.keep _ _ _ t7 fun b hb o e => (stay b hb o e).1, fun b hb => ?_, p'⟩
        · rw [← same] at e
          obtain ⟨e1, e2⟩ := wipe_some e
          rw [wipe_out fun z => e2 (sub j z)]
          exact e1
        · obtain ⟨o, e, _⟩ := T.obj _ _ t7 b hb
          exact (stay b hb o e).2
      · obtain ⟨go1, step1⟩ := turn1 j H12 lt1 p12
        refine thnF (T1.item (X.blk s3 H3 scope (compEnvC scope cl C X.env) fp) rfl rfl rfl calm j _ s12 (wipe σ8 vs1) H12 (fun _ _ => False) I12 (here1 none12) t12 go1) fun r s13 ⟨u1, hr, came2⟩ => ?_
        subst hr
        refine thnF came2 fun _ s14 ⟨x1, H14, I14, r14, y14, t14, none14⟩ => ?_
        refine thnF ((pg1 s3 H3 C cl fp).run _ s14 (wipe σ8 vs1) H14 x1 u1 _ (I14.pinned (here1 none14) (T1.obj _ _ t14)) r14 (step1 x1 H14 y14)) fun _ s15 ⟨σ15, H15, I15, same1, q15⟩ => ?_
        refine thnF ((pe s3 H3 C cl fp).run _ s15 σ15 H15 _ I15 q15) fun z s16 ⟨y, H16, I16, r16, jn⟩ => ?_
        refine thnF (join_set (X := X.blk s3 H3 scope (compEnvC scope cl C X.env) fp) (E := fun _ _ => False) I16 r16 jn) fun _ s17 ⟨H17, I17, p17⟩ => ?_
        have stay1 : ∀ b ∈ fp1, ∀ o, s14.heap.get? b = some o → s17.heap.get? b = some o ∧ H17 b = none := fun b hb o e => let z := I17.pin (b, o) (List.mem_append_right _ (List.mem_append_right _ (mem_pinsAt hb e))); ⟨z.1, z.2.1⟩
        refine ⟨n1 - (j + 1), by omega, j + 1, H17, rfl, lt1, I17.unpinned.weak (by rw [← same1, wipe_length]) (fun j v e => by rw [← same1] at e; exact (wipe_some e).1), T1.keep _ _ _ t14 fun b hb o e => (stay1 b hb o e).1, fun b hb => ?_, p17⟩
        obtain ⟨o, e, _⟩ := T1.obj _ _ t14 b hb
        exact (stay1 b hb o e).2
    exact inner_start loop1 (T1.self X.A 0 _ _ _ t10 loop1)
end
end GX
set_option Elab.async false
set_option linter.all false
set_option maxRecDepth 100000
set_option maxHeartbeats 4000000
/-! sorted({..}) over data -/
namespace G
open PySem L2
section
variable {Z : Wd} {M H M' H' : Hp} {B : Bas} {W : List (Nat × Addr)} {σ σ' : St} {δ : List S}
variable {te : TE} {tt : TT} {Ω : OD → List S → Prop} {bs vs vs1 : List Nat} {w : World}
theorem I3.turnO {A : Addr} {oA : HO} (I : I3 Z B W M H σ δ) (hA : H A = some oA) (hAm : M A = none) (hAo : ∀ j, ¬ Own σ δ j A) (hno : ∀ v ∈ vs, δ[v]? = some .no) (tA : NT oA := by exact fun _ e => nomatch e) :
    ∃ W2 : List (Nat × Addr), (∀ v ∈ vs, v ∉ W2.map (·.1)) ∧ I3 Z ⟨H, M⟩ W2 M H (wipe σ vs) δ ∧ ∀ M4 H4 σ4 δ4, Ex M M4 → (∀ j, j ∉ vs → σ4[j]? = (wipe σ vs)[j]?) → σ4.length = (wipe σ vs).length → I3 Z ⟨H, M⟩ W2 M4 H4 σ4 δ4 →
      (I3 Z B W M4 H4 σ (wipeS δ4 vs) ∧ H4 A = some oA ∧ M4 A = none ∧ (∀ j, ¬ Own σ (wipeS δ4 vs) j A) ∧ ∀ v ∈ vs, (wipeS δ4 vs)[v]? = some .no) ∧ I3 Z B W M4 H4 σ4 δ4 ∧ (∀ j, ¬ Own σ4 δ4 j A) ∧ ∀ v p, v ∈ vs → (v, p) ∉ W := by
  have hvlen : ∀ v ∈ vs, v < δ.length := fun v hv => (List.getElem?_eq_some_iff.mp (hno v hv)).1
  have hWv : ∀ i p, i ∈ vs → (i, p) ∉ W := fun i p hv hw => by
    exact Own.not (hno i hv) hol_no (I.bor i p hw)
  have Iw : I3 Z B W M H (wipe σ vs) δ := I.swap (fun j hj => wipe_out hj) (wipe_length _ _) (fun _ _ => rfl) (fun j hj _ => hno j hj) rfl hWv
  have hbs : ∀ v ∈ vs, v ∉ (owns 0 (wipe σ vs) δ).map (·.1) := fun v hv hm => by
    obtain ⟨⟨i, p⟩, hmem, rfl⟩ := List.mem_map.mp hm
    exact Own.not (hno _ hv) hol_no (mem_owns.mp hmem)
  have ownEq : ∀ i p, (i, p) ∈ owns 0 (wipe σ vs) δ ↔ Own σ δ i p := fun i p => by
    rw [mem_owns]
    constructor
    · intro o
      have hi' : i ∉ vs := fun hv => Own.not (hno i hv) hol_no o
      exact o.same (wipe_out hi').symm rfl
    · intro o
      have hi' : i ∉ vs := fun hv => Own.not (hno i hv) hol_no o
      exact o.same (wipe_out hi') rfl
  refine ⟨_, hbs, Iw.rebase, fun M4 H4 σ4 δ4 e4 k4 l4 J4 => ?_⟩
  have hl4 : δ4.length = δ.length := by rw [← J4.len, l4, wipe_length, I.len]
  have J5 : I3 Z ⟨H, M⟩ (owns 0 (wipe σ vs) δ) M4 H4 σ (wipeS δ4 vs) := J4.swap (vs := vs) (fun j hj => by rw [k4 j hj, wipe_out hj]) (by rw [l4, wipe_length]) (fun j hj => wipeS_out hj) (fun j hj hlt => wipeS_in (by rw [wipeS_len] at hlt; exact hlt) hj) (wipeS_len _) fun i p hv hw => hbs i hv (List.mem_map_of_mem (f := (·.1)) hw)
  obtain ⟨z1, z2, z3⟩ := J5.stays (a := A) hA hAm (fun i hi => hAo i ((ownEq i A).mp hi)) tA
  obtain ⟨_, y2, _⟩ := J4.stays (a := A) hA hAm (fun i hi => hAo i ((ownEq i A).mp hi)) tA
  exact ⟨⟨I.back ownEq J5, z1, z3, z2, fun v hv => wipeS_in (by rw [hl4]; exact hvlen v hv) hv⟩, I.back ownEq J4, y2, hWv⟩
/-- the set at A has just these members -/
def SetHas (w : World) (H : Hp) (A : Addr) (acc : List Int) : Prop := ∃ us : List Int, H A = some (SetO w A (fun k => decide (k ∈ acc)) us.length) ∧ us.Nodup ∧ ∀ k, k ∈ us ↔ k ∈ acc
theorem SetHas.new {A : Addr} : SetHas w (upd H A (SetO w A (fun _ => false) 0)) A [] := ⟨[], by rw [upd_same]; congr, .nil, by simp⟩
theorem nodup_le : ∀ {us l : List Int}, us.Nodup → (∀ k ∈ us, k ∈ l) → us.length ≤ l.length
  | [], _, _, _ => Nat.zero_le _
  | u :: us, l, n, h => by
    obtain ⟨n1, n2⟩ := List.nodup_cons.mp n
    have hu := h u List.mem_cons_self
    have := nodup_le (us := us) (l := l.erase u) n2 fun k hk => (List.mem_erase_of_ne (fun (e : k = u) => n1 (by rw [← e]; exact hk))).mpr (h k (List.mem_cons_of_mem _ hk))
    rw [List.length_erase_of_mem hu] at this
    have := List.length_pos_of_mem hu
    rw [List.length_cons]; omega
theorem SetHas.join {A : Addr} {acc : List Int} {k : Int} {on : Hp → Prop} (h : SetHas w H A acc) (room : acc.length < 4000) (go : ∀ o, SetHas w (upd H A o) A (acc ++ [k]) → on (upd H A o)) : GX.joins w A (.int k) H on := by
  obtain ⟨us, h1, h2, h3⟩ := h
  have l := nodup_le h2 fun k hk => (h3 k).mp hk
  have s4 : PySem.scanBound = 4096 := rfl
  refine ⟨k, _, _, rfl, h1, by rw [s4]; omega, go _ ?_⟩
  have e : (fun j => decide (j ∈ acc) || decide (j = k)) = fun j => decide (j ∈ acc ++ [k]) := by funext j; simp
  by_cases c : k ∈ acc
  · refine ⟨us, ?_, h2, fun j => ?_⟩
    · rw [upd_same, e, if_pos (by simpa using c)]
    · rw [h3, List.mem_append, List.mem_singleton]
      exact ⟨.inl, fun z => z.elim id fun z => z ▸ c⟩
  · refine ⟨us ++ [k], ?_, ?_, fun j => ?_⟩
    · rw [upd_same, e, if_neg (by simpa using c), List.length_append, List.length_singleton]
    · refine List.nodup_append.mpr ⟨h2, by simp, fun x hx y hy z => ?_⟩
      rw [List.mem_singleton.mp hy] at z
      exact c (z ▸ (h3 x).mp hx)
    · rw [List.mem_append, List.mem_append, h3]
/-- sorted of such a set -/
theorem sort_set {A : Addr} {acc few : List Int} {Q : VK} {M1 H1 : Hp} {δ1 : List S} (h : SetHas w H1 A acc) (lf : few.length < 64) (hf : ∀ k ∈ acc, k ∈ few) (I1 : I3 Z B W M1 H1 σ δ1) (e : Ex M M1) (f : ∀ ns : List Int, ns.Pairwise (· < ·) → (∀ k, k ∈ ns ↔ k ∈ acc) → Ω (.lst (ns.map .int)) δ1)
    (q : ∀ M' H' δ' p ho y, Ω y δ' → Ex M M' → I3 Z B W M' H' σ δ' → H' p = some ho → ODAt Z M' ho y → M' p = none → B.h p = none → (∀ i, ¬ Own σ δ' i p) → Q (.ref p) H') : rSortedSet w [.ref A] H1 Q := by
  obtain ⟨us, h1, h2, h3⟩ := h
  have l := nodup_le (l := few) h2 fun k hk => hf k ((h3 k).mp hk)
  exact ⟨A, _, _, rfl, h1, by omega, fun ns p asc mem _ hp => newO (o := .lst _) (y := .lst _) I1 hp (AtL.ofInts ns) (f ns asc fun k => (mem k).trans (by simp)) e q⟩
theorem xo_sort1 {g : TG} {wi : TI} (h : XI Z wi δ fun xs δ0 => (∀ v ∈ vs, δ0[v]? = some .no) ∧ xs.length ≤ 1000 ∧ ∃ J : Nat → List Int → List S → Prop, J 0 [] δ0 ∧
      (∀ i d acc δ1 bs, (∀ v ∈ vs, v ∉ bs) → xs[i]? = some d → J i acc δ1 → XG Z vs bs g d δ1 fun δ2 => XT Z tt δ2 fun b δ3 => if b = true then XE Z te δ3 fun y δ4 => ∃ k, y = .int k ∧ J (i + 1) (acc ++ [k]) (wipeS δ4 vs) else J (i + 1) acc (wipeS δ3 vs)) ∧
      ∀ acc δ1, J xs.length acc δ1 → ∃ few : List Int, few.length < 64 ∧ (∀ k ∈ acc, k ∈ few) ∧ ∀ ns : List Int, ns.Pairwise (· < ·) → (∀ k, k ∈ ns ↔ k ∈ acc) → Ω (.lst (ns.map .int)) δ1) :
    XO Z (tCB (rSortedSet w) (tCons (GX.tSetC w wi vs (GX.job1 w g tt te vs)) tNil)) δ Ω := XO.mk fun B W M H σ Q I q =>
  h B W M H σ _ I fun M' H1 δ' J xs f e1 I1 wd A hA => by
    obtain ⟨hno, hxs, Jv, j0, js, jn⟩ := f
    have hAB := I1.fresh hA
    have hAm := I1.ex.free hA
    refine ⟨xs.length, fun i H => i ≤ xs.length → ∃ M'' δ'' acc, Ex M' M'' ∧ I3 Z B W M'' H σ δ'' ∧ Jv i acc δ'' ∧ SetHas w H A acc ∧ M'' A = none ∧ (∀ j, ¬ Own σ δ'' j A) ∧ (∀ v ∈ vs, δ''[v]? = some .no) ∧ acc.length ≤ i,
      fun _ => ⟨M', δ', [], Ex.rfl', I1.other hAB hAm (I1.newOwn hA), j0, .new, hAm, I1.newOwn hA, hno, Nat.le_refl _⟩, fun i Ha hi p => ?_, fun Ha p => ?_⟩
    · obtain ⟨M'', δ'', acc, a, Ia, ja, has, hAm1, hAo, hno1, hacc⟩ := p (Nat.le_of_lt hi)
      refine ⟨wd.go i Ha hi (a.tr Ia.ex), fun x Hb yl => ?_⟩
      obtain ⟨us, hA1, nd, mem⟩ := has
      obtain ⟨d, M2, hd, e2, I2, at2, k2, m2⟩ := YD.use (wd.walk.yields i Ha x Hb hi (a.tr Ia.ex) yl) a Ia
      obtain ⟨W2, hbs, Iw, fin⟩ := I2.turnO (vs := vs) (k2 _ _ hA1) (m2 _ _ hA1 hAm1) hAo hno1
      refine js i d acc δ'' _ hbs hd ja _ _ M2 Hb (wipe σ vs) x _ rfl Iw at2 fun M3 H3 σ3 δ3 h3 e3 J3 k3 l3 => ⟨(wipe_eq k3 l3).trans (wipe_eq (fun j hj => wipe_out hj) (wipe_length _ _)), ?_⟩
      refine h3 _ _ M3 H3 σ3 _ J3 fun M4 H4 δ4 b h4 e4 J4 => ?_
      cases b with
      | false =>
        rw [if_neg Bool.false_ne_true] at h4 ⊢
        obtain ⟨⟨z1, z2, z3, z4, z5⟩, _⟩ := fin M4 H4 σ3 δ4 (e3.tr e4) k3 l3 J4
        exact fun _ => ⟨M4, _, _, a.tr (e2.tr (e3.tr e4)), z1, h4, ⟨us, z2, nd, mem⟩, z3, z4, z5, Nat.le_succ_of_le hacc⟩
      | true =>
        rw [if_pos rfl] at h4 ⊢
        refine XE.run h4 J4 fun M5 H5 δ5 y' d' h5 e5 J5 at5 => ?_
        obtain ⟨k, rfl, h5⟩ := h5
        cases at5
        obtain ⟨⟨z1, z2, z3, z4, z5⟩, _⟩ := fin M5 H5 σ3 δ5 (e3.tr (e4.tr e5)) k3 l3 J5
        exact SetHas.join ⟨us, z2, nd, mem⟩ (by omega) fun o has' _ => ⟨M5, _, _, a.tr (e2.tr (e3.tr (e4.tr e5))), z1.other hAB z3 z4, h5, has', z3, z4, z5, by rw [List.length_append, List.length_singleton]; omega⟩
    · obtain ⟨M'', δ'', acc, a, Ia, ja, has, hAm1, hAo, hno1, _⟩ := p (Nat.le_refl _)
      obtain ⟨few, lf, hf, f⟩ := jn _ _ ja
      exact ⟨wd.stop Ha (a.tr Ia.ex), sort_set has lf hf Ia (e1.tr a) f q⟩
theorem xo_sort2 {g g1 : TG} {wi wi1 : TI} (h : XI Z wi δ fun xs δ0 => (∀ v ∈ vs, δ0[v]? = some .no) ∧ xs.length ≤ 40 ∧ ∃ J : Nat → List Int → List S → Prop, J 0 [] δ0 ∧
      (∀ i d acc δ1 bs, (∀ v ∈ vs, v ∉ bs) → xs[i]? = some d → J i acc δ1 → XG Z vs bs g d δ1 fun δ2 => XI Z wi1 δ2 fun zs δ4 => zs.length ≤ 90 ∧ (∀ v ∈ vs1, δ4[v]? = some .no) ∧ ∃ Jn : Nat → List Int → List S → Prop, Jn 0 acc δ4 ∧
        (∀ j e acc δ5 bs, (∀ v ∈ vs1, v ∉ bs) → zs[j]? = some e → Jn j acc δ5 → XG Z vs1 bs g1 e δ5 fun δ6 => XE Z te δ6 fun y δ8 => ∃ k, y = .int k ∧ Jn (j + 1) (acc ++ [k]) (wipeS δ8 vs1)) ∧
        ∀ acc δ5, Jn zs.length acc δ5 → J (i + 1) acc (wipeS δ5 vs)) ∧
      ∀ acc δ1, J xs.length acc δ1 → ∃ few : List Int, few.length < 64 ∧ (∀ k ∈ acc, k ∈ few) ∧ ∀ ns : List Int, ns.Pairwise (· < ·) → (∀ k, k ∈ ns ↔ k ∈ acc) → Ω (.lst (ns.map .int)) δ1) :
    XO Z (tCB (rSortedSet w) (tCons (GX.tSetC w wi vs (GX.job2 w g wi1 g1 te vs vs1)) tNil)) δ Ω := XO.mk fun B W M H σ Q I q =>
  h B W M H σ _ I fun M' H1 δ' J xs f e1 I1 wd A hA => by
    obtain ⟨hno, hxs, Jv, j0, js, jn⟩ := f
    have hAB := I1.fresh hA
    have hAm := I1.ex.free hA
    refine ⟨xs.length, fun i H => i ≤ xs.length → ∃ M'' δ'' acc, Ex M' M'' ∧ I3 Z B W M'' H σ δ'' ∧ Jv i acc δ'' ∧ SetHas w H A acc ∧ M'' A = none ∧ (∀ j, ¬ Own σ δ'' j A) ∧ (∀ v ∈ vs, δ''[v]? = some .no) ∧ acc.length ≤ 90 * i,
      fun _ => ⟨M', δ', [], Ex.rfl', I1.other hAB hAm (I1.newOwn hA), j0, .new, hAm, I1.newOwn hA, hno, Nat.le_refl _⟩, fun i Ha hi p => ?_, fun Ha p => ?_⟩
    · obtain ⟨M'', δ'', acc, a, Ia, ja, has, hAm1, hAo, hno1, hacc⟩ := p (Nat.le_of_lt hi)
      refine ⟨wd.go i Ha hi (a.tr Ia.ex), fun x Hb yl => ?_⟩
      obtain ⟨us, hA1, nd, mem⟩ := has
      obtain ⟨d, M2, hd, e2, I2, at2, k2, m2⟩ := YD.use (wd.walk.yields i Ha x Hb hi (a.tr Ia.ex) yl) a Ia
      obtain ⟨W2, hbs, Iw, fin⟩ := I2.turnO (vs := vs) (k2 _ _ hA1) (m2 _ _ hA1 hAm1) hAo hno1
      refine js i d acc δ'' _ hbs hd ja _ _ M2 Hb (wipe σ vs) x _ rfl Iw at2 fun M3 H3 σ3 δ3 h3 e3 J3 k3 l3 => ⟨(wipe_eq k3 l3).trans (wipe_eq (fun j hj => wipe_out hj) (wipe_length _ _)), ?_⟩
      refine h3 _ _ M3 H3 σ3 _ J3 fun M5 H5 δ5 J1 zs h5 e5 J5 wd1 => ?_
      obtain ⟨hzs, hno5, Jn, n0, ns, nn⟩ := h5
      have ex5 : Ex M2 M5 := e3.tr e5
      obtain ⟨⟨_, y2, y3, _, _⟩, yI, yO, hWv⟩ := fin M5 H5 σ3 δ5 ex5 k3 l3 J5
      refine ⟨zs.length, fun j H => j ≤ zs.length → ∃ M6 δ6 acc6, Ex M5 M6 ∧ I3 Z B W M6 H σ3 δ6 ∧ Jn j acc6 δ6 ∧ SetHas w H A acc6 ∧ M6 A = none ∧ (∀ j, ¬ Own σ3 δ6 j A) ∧ (∀ v ∈ vs1, δ6[v]? = some .no) ∧ acc6.length ≤ 90 * i + j ∧ δ6.length = δ''.length,
        fun _ => ⟨M5, δ5, acc, Ex.rfl', yI, n0, ⟨us, y2, nd, mem⟩, y3, yO, hno5, by omega, by rw [← yI.len, l3, wipe_length, I2.len]⟩, fun j Hc hj p => ?_, fun Hc p => ?_⟩
      · obtain ⟨M6, δ6, acc6, a6, I6, j6, has6, hAm6, hAo6, hno6, hacc6, hlen6⟩ := p (Nat.le_of_lt hj)
        refine ⟨wd1.go j Hc hj (a6.tr I6.ex), fun x1 Hd yl1 => ?_⟩
        obtain ⟨us6, hA6, nd6, mem6⟩ := has6
        obtain ⟨d7, M7, hd7, e7, I7, at7, k7, m7⟩ := YD.use (wd1.walk.yields j Hc x1 Hd hj (a6.tr I6.ex) yl1) a6 I6
        obtain ⟨W7, hbs7, Iw7, fin7⟩ := I7.turnO (vs := vs1) (k7 _ _ hA6) (m7 _ _ hA6 hAm6) hAo6 hno6
        refine ns j d7 acc6 δ6 _ hbs7 hd7 j6 _ _ M7 Hd (wipe σ3 vs1) x1 _ rfl Iw7 at7 fun M8 H8 σ8 δ8 h8 e8 J8 k8 l8 => ⟨(wipe_eq k8 l8).trans (wipe_eq (fun j hj => wipe_out hj) (wipe_length _ _)), ?_⟩
        refine XE.run h8 J8 fun M0 H0 δ0 y' d' h0 e0 J0 at0 => ?_
        obtain ⟨k, rfl, h0⟩ := h0
        cases at0
        have ex0 : Ex M7 M0 := e8.tr e0
        obtain ⟨⟨z1, z2, z3, z4, z5⟩, _⟩ := fin7 M0 H0 σ8 δ0 ex0 k8 l8 J0
        exact SetHas.join ⟨us6, z2, nd6, mem6⟩ (by omega) fun o has' _ => ⟨M0, _, _, a6.tr (e7.tr ex0), z1.other hAB z3 z4, h0, has', z3, z4, z5, by rw [List.length_append, List.length_singleton]; omega, by rw [← z1.len, I7.len, hlen6]⟩
      · obtain ⟨M6, δ6, acc6, a6, I6, j6, has6, hAm6, hAo6, hno6, hacc6, hlen6⟩ := p (Nat.le_refl _)
        have hvlen : ∀ v ∈ vs, v < δ6.length := fun v hv => by rw [hlen6]; exact (List.getElem?_eq_some_iff.mp (hno1 v hv)).1
        have Jb : I3 Z B W M6 Hc σ (wipeS δ6 vs) := I6.swap (vs := vs) (fun j hj => by rw [k3 j hj, wipe_out hj]) (by rw [l3, wipe_length]) (fun j hj => wipeS_out hj) (fun j hj hlt => wipeS_in (by rw [wipeS_len] at hlt; exact hlt) hj) (wipeS_len _) fun i p hv => hWv i p hv
        refine ⟨wd1.stop Hc (a6.tr I6.ex), fun _ => ⟨M6, wipeS δ6 vs, acc6, a.tr (e2.tr (ex5.tr a6)), Jb, nn _ _ j6, has6, hAm6, fun j o => ?_, fun v hv => wipeS_in (hvlen v hv) hv, by omega⟩⟩
        have hj' : j ∉ vs := fun hv => Own.not (wipeS_in (hvlen j hv) hv) hol_no o
        exact hAo6 j (o.same (by rw [k3 j hj', wipe_out hj']) (wipeS_out hj').symm)
    · obtain ⟨M'', δ'', acc, a, Ia, ja, has, hAm1, hAo, hno1, _⟩ := p (Nat.le_refl _)
      obtain ⟨few, lf, hf, f⟩ := jn _ _ ja
      exact ⟨wd.stop Ha (a.tr Ia.ex), sort_set has lf hf Ia (e1.tr a) f q⟩
end
end G
set_option Elab.async false
set_option linter.all false
set_option maxRecDepth 100000
set_option maxHeartbeats 4000000
/-! own dicts with ints as keys; bits -/
namespace GX
open PySem PySem.Spec PyProof.Rows L2
section
variable {X : Cx} {elt tg iter tg1 iter1 : Expr} {scope : Scope} {own : List (PySem.Str × Nat)} {pos : Pos} {wi wi1 : TI} {g g1 : TG} {tt : TT} {te : TE} {vs1 : List Nat}
theorem pe_set1 {ifs : List Expr} (calm : X.calm = true) (nd : X.N.Nodup) (src : PI X tg iter wi) (blk : BlkOk X.N X.env.scope scope own) (pg : ∀ (s : Shared) (H : Hp) (C : Addr) (cl : List (PySem.Str × Addr)) (fp : List Addr), PG (X.blk s H scope (compEnvC scope cl C X.env) fp) tg g)
    (pt : ∀ (s : Shared) (H : Hp) (C : Addr) (cl : List (PySem.Str × Addr)) (fp : List Addr), PTs (X.blk s H scope (compEnvC scope cl C X.env) fp) ifs tt) (pe : ∀ (s : Shared) (H : Hp) (C : Addr) (cl : List (PySem.Str × Addr)) (fp : List Addr), PE (X.blk s H scope (compEnvC scope cl C X.env) fp) elt te)
    (plain : ∀ x, foldedSetIterable iter X.env x = pure x := by intro _; rfl) : PE X (.SetComp elt [⟨tg, iter, ifs, 0⟩] scope pos) (tSetC X.w wi (own.map (·.2)) (job1 X.w g tt te (own.map (·.2)))) := pe_setC calm nd src blk (does1 pg pt pe) plain
theorem pe_set2 (calm : X.calm = true) (nd : X.N.Nodup) (src : PI X tg iter wi) (blk : BlkOk X.N X.env.scope scope own) (sub : ∀ i ∈ vs1, i ∈ own.map (·.2)) (pg : ∀ (s : Shared) (H : Hp) (C : Addr) (cl : List (PySem.Str × Addr)) (fp : List Addr), PG (X.blk s H scope (compEnvC scope cl C X.env) fp) tg g)
    (pi1 : ∀ (s : Shared) (H : Hp) (C : Addr) (cl : List (PySem.Str × Addr)) (fp : List Addr), PI (X.blk s H scope (compEnvC scope cl C X.env) fp) tg1 iter1 wi1) (pg1 : ∀ (s : Shared) (H : Hp) (C : Addr) (cl : List (PySem.Str × Addr)) (fp : List Addr), PG (X.blk s H scope (compEnvC scope cl C X.env) fp) tg1 g1)
    (pe : ∀ (s : Shared) (H : Hp) (C : Addr) (cl : List (PySem.Str × Addr)) (fp : List Addr), PE (X.blk s H scope (compEnvC scope cl C X.env) fp) elt te) (plain : ∀ x, foldedSetIterable iter X.env x = pure x := by intro _; rfl) (plain1 : ∀ env x, foldedSetIterable iter1 env x = pure x := by intro _ _; rfl) :
    PE X (.SetComp elt [⟨tg, iter, [], 0⟩, ⟨tg1, iter1, [], 0⟩] scope pos) (tSetC X.w wi (own.map (·.2)) (job2 X.w g wi1 g1 te (own.map (·.2)) vs1)) := pe_setC calm nd src blk (does2 pg pi1 pg1 pe sub plain1) plain
end
end GX
namespace G
open PySem L2
theorem units1 {k : Nat} {A : PySem.Around} (r : Room k A) : A.units + 1 < cLine := by have := r.un; omega
section
variable {Z : Wd} {M H M' H' : Hp} {B : Bas} {W : List (Nat × Addr)} {σ σ' : St} {δ : List S}
variable {te ta tb ty tv : TE} {tt : TT} {s1 : TS} {Φ : D → List S → Prop} {Ω : OD → List S → Prop} {Λ : List D → List S → Prop} {bs vs : List Nat} {P : Po}
def keyD : Key → D | .inl i => .int i | .inr s => .str s
theorem key_at {v : V} {k : Key} (a : At Z M v (keyD k)) : v = kV k := by
  cases k with
  | inl i => cases (a : At Z M v (.int i)); rfl
  | inr s => cases (a : At Z M v (.str s)); rfl
theorem at_key {k : Key} : At Z M (kV k) (keyD k) := by
  cases k with
  | inl i => exact .int
  | inr s => exact .str
/-- what a dict has for a key -/
def dget (kvs : List (Key × D)) (k : Key) : Option D := (kvs.find? fun kv => decide (kv.1 = k)).map (·.2)
theorem dget_at {k : Key} : ∀ {kvs : List (Key × D)} {us : List (Key × V)}, us.map (·.1) = kvs.map (·.1) → AtL Z M (us.map (·.2)) (kvs.map (·.2)) → (dget kvs k = none → valV us k = none) ∧ ∀ d, dget kvs k = some d → ∃ v, valV us k = some v ∧ At Z M v d
  | [], [], _, _ => ⟨fun _ => rfl, nofun⟩
  | [], _ :: _, h, _ => nomatch h
  | _ :: _, [], h, _ => nomatch h
  | (k1, d1) :: kvs, (k2, v2) :: us, h, a => by
    obtain ⟨rfl, h'⟩ := List.cons.inj h
    obtain ⟨v, ws, e, a1, a2⟩ := AtL.inv (a : AtL Z M (v2 :: us.map (·.2)) (d1 :: kvs.map (·.2)))
    obtain ⟨rfl, rfl⟩ := List.cons.inj e
    have ih := dget_at (k := k) h' a2
    by_cases c : k2 = k
    · subst c
      refine ⟨fun z => by simp [dget] at z, fun d z => ⟨v2, valV_pos rfl, ?_⟩⟩
      simp [dget] at z
      exact z ▸ a1
    · have e1 : dget ((k2, d1) :: kvs) k = dget kvs k := by simp [dget, List.find?_cons, c]
      rw [e1, valV_neg c]
      exact ih
theorem xo_dnew (h : Ω (.dic []) δ) : XO Z tDNewK δ Ω := XO.mk fun B W M H σ Q I q => fun p hp => newO (o := .dK []) (y := .dic []) I hp ⟨rfl, .nil⟩ h Ex.rfl' q
/-- d[k], d an own dict -/
theorem xe_dgetO {i : Nat} (hv : ∃ y, δ[i]? = some (.own y)) (h : XE Z ty δ fun b δ2 => ∃ kvs k d, δ2[i]? = some (.own (.dic kvs)) ∧ b = keyD k ∧ dget kvs k = some d ∧ Φ d δ2) : XE Z (tDGet (tVar i) ty) δ Φ := XE.mk fun B W M H σ Q I q => by
  obtain ⟨y, hy⟩ := hv
  obtain ⟨o, e, p, ho, rfl, _⟩ := I.sl i _ hy
  refine ⟨_, e, h.run I fun M2 H2 δ2 v b h2 e2 I2 at2 => ?_⟩
  obtain ⟨kvs, k, d, hx, rfl, hd, f⟩ := h2
  obtain ⟨o', e', p', ho', rfl, hp', hy', _⟩ := I2.sl i _ hx
  rw [e] at e'; cases e'
  obtain ⟨us, rfl, ks, a⟩ := hy'.dicI
  obtain ⟨v1, hv1, a1⟩ := (dget_at ks a).2 d hd
  cases key_at at2
  exact ⟨_, v1, rfl, hv1 ▸ DGet.k hp', q M2 H2 δ2 _ _ f e2 I2 a1⟩
/-- d[k], d a datum -/
theorem xe_dget (h : XE Z ta δ fun a δ1 => XE Z ty δ1 fun b δ2 => ∃ kvs k d, a = .dic (kvs.map (·.1)) (kvs.map (·.2)) ∧ b = keyD k ∧ dget kvs k = some d ∧ Φ d δ2) : XE Z (tDGet ta ty) δ Φ := XE.mk fun B W M H σ Q I q =>
  h.run I fun M1 H1 δ1 x a h1 e1 I1 at1 => XE.run h1 I1 fun M2 H2 δ2 v b h2 e2 I2 at2 => by
    obtain ⟨kvs, k, d, rfl, rfl, hd, f⟩ := h2
    cases key_at at2
    cases at1.mono e2 with
    | dic m ks l c =>
      obtain ⟨v1, hv1, a1⟩ := (dget_at (M := M2) ks ⟨l, c⟩).2 d hd
      exact ⟨_, v1, rfl, hv1 ▸ DGet.k (I2.ex _ _ m), q M2 H2 δ2 _ _ f (e1.tr e2) I2 a1⟩
/-- d[k] = v, a new key of an own dict -/
theorem xs_dput {i : Nat} (h : XE Z tv δ fun d δ1 => (∃ y, δ1[i]? = some (.own y)) ∧ XE Z ty δ1 fun b δ2 => ∃ kvs k, δ2[i]? = some (.own (.dic kvs)) ∧ b = keyD k ∧ dget kvs k = none ∧ kvs.length < 1000000 ∧ P.N (δ2.set i (.own (.dic (kvs ++ [(k, d)]))))) :
    XS Z bs (sDPut (tVar i) ty tv) δ P := fun B W M H σ E hb I e => h.run I fun M1 H1 δ1 x d h1 e1 I1 at1 => by
  obtain ⟨⟨y, hy⟩, h1⟩ := h1
  obtain ⟨o, e0, p, ho, rfl, _⟩ := I1.sl i _ hy
  refine ⟨_, e0, XE.run h1 I1 fun M2 H2 δ2 v b h2 e2 I2 at2 => ?_⟩
  obtain ⟨kvs, k, hx, rfl, hd, hl, f⟩ := h2
  obtain ⟨o', e', p', ho', rfl, hp', hy', _⟩ := I2.sl i _ hx
  rw [e0] at e'; cases e'
  obtain ⟨us, rfl, ks, a⟩ := hy'.dicI
  cases key_at at2
  have no := (dget_at ks a).1 hd
  have lu : us.length = kvs.length := by simpa using congrArg List.length ks
  have put : putK us k x = us ++ [(k, x)] := by unfold putK; rw [valV_any, no]; rfl
  refine ⟨_, _, rfl, DPut.k hp' (Nat.lt_of_lt_of_le (by rw [lu]; exact hl) (by decide)), ?_⟩
  rw [put]
  refine e.nx _ _ _ _ f (e1.tr e2) (I2.write e0 hx (ho := .dK _) (y' := .dic _) ⟨by simp [ks], ?_⟩)
  rw [List.map_append, List.map_append]
  exact AtL.app a (.one (at1.mono e2))
/-- list(d): the keys -/
theorem xo_listD (h : XE Z te δ fun a δ1 => ∃ kvs : List (Key × D), a = .dic (kvs.map (·.1)) (kvs.map (·.2)) ∧ Ω (.lst (kvs.map fun kv => keyD kv.1)) δ1) :
    XO Z (tCB (fun xs H Q => ∃ (a : Addr) (kvs : List (Key × V)), xs = [.ref a] ∧ Rd H a (.dK kvs) ∧ ∀ p, H p = none → Q (.ref p) (upd H p (.lst (kvs.map fun kv => kV kv.1)))) (tCons te tNil)) δ Ω := XO.mk fun B W M H σ Q I q =>
  h.run I fun M1 H1 δ1 x a h1 e1 I1 at1 => by
    obtain ⟨kvs, rfl, f⟩ := h1
    cases at1 with
    | @dic a us _ _ m ks l c =>
      refine ⟨a, us, rfl, .inl (I1.ex _ _ m), fun p hp => newO (o := .lst _) (y := .lst _) I1 hp ?_ f e1 q⟩
      have e : (us.map fun kv => kV kv.1) = (kvs.map (·.1)).map kV := by rw [← ks, List.map_map]; rfl
      show AtL Z M1 (us.map fun kv => kV kv.1) (kvs.map fun kv => keyD kv.1)
      rw [e, List.map_map]
      refine ⟨by simp, fun i v d h1 h2 => ?_⟩
      rw [List.getElem?_map] at h1 h2
      cases z : kvs[i]? with
      | none => rw [z] at h1; cases h1
      | some kv => rw [z] at h1 h2; cases h1; cases h2; exact at_key
/-- 1 << k -/
theorem xe_oneShl (h : XE Z ta δ fun a δ1 => a = .int 1 ∧ XE Z tb δ1 fun b δ2 => ∃ k : Nat, b = .int (k : Int) ∧ k ≤ 1000 ∧ Φ (.int (2 ^ k)) δ2) : XE Z (tOp (fun x y H Q => ∃ k : Nat, x = .int 1 ∧ y = .int (k : Int) ∧ k ≤ 134217727 ∧ Q (.int (2 ^ k)) H) ta tb) δ Φ := XE.mk fun B W M H σ Q I q =>
  h.run I fun M1 H1 δ1 x a h1 e1 I1 at1 => by
    obtain ⟨rfl, h1⟩ := h1
    cases at1
    exact XE.run h1 I1 fun M2 H2 δ2 y b h2 e2 I2 at2 => by
      obtain ⟨k, rfl, l, f⟩ := h2
      cases at2
      exact ⟨k, rfl, rfl, by omega, q M2 H2 δ2 _ _ f (e1.tr e2) I2 .int⟩
end
end G
namespace G
open PySem L2
theorem pi_listK {X : L2.Cx} {K : PySem.W.Frag} {tg l : PySem.Expr} {tl : L2.TE} (hK : X.K = K) (h : L2.PE X l tl) : L2.PI X tg l (L2.iList K tl) := hK ▸ L2.pi_list h
theorem pt_truthK {X : L2.Cx} {K : PySem.W.Frag} {e : PySem.Expr} {te : L2.TE} (hK : X.K = K) (h : L2.PE X e te) (he : ∀ whole, isTrue e X.env whole = (do let v ← whole; standAt e.pos; holding [v] (truthy v))) : L2.PT X e (fun σ H Q => te σ H fun x H' => ∃ k, TruV K x H' k ∧ Q k H') := by
  subst hK; exact L2.pt_truth h he
end G
namespace G
open PySem L2
section
variable {Z : Wd} {δ : List S} {te : TE} {Φ : D → List S → Prop} {bs : List Nat} {P : Po}
/-- an own dict that is handed on -/
theorem xe_ofOD (h : XO Z te δ fun y δ' => ∃ kvs : List (Key × D), y = .dic kvs ∧ Φ (.dic (kvs.map (·.1)) (kvs.map (·.2))) δ') : XE Z te δ Φ := XE.mk fun B W M H σ Q I k =>
  h.run I fun M' H' δ' p ho y f e I' a b c d g => by
    obtain ⟨kvs, rfl, f⟩ := f
    obtain ⟨vs, rfl, ak, l⟩ := b.dicI
    have ex : Ex M' (upd M' p (.dK vs)) := Ex.new c
    exact k _ _ δ' _ _ f (e.tr ex) (I'.hold a c d g) (.dic upd_same ak l.len (l.mono ex).at')
end
end G
set_option Elab.async false
set_option linter.all false
set_option maxRecDepth 100000
/-! list.extend by a bare tuple -/
namespace GX
open PySem PySem.Spec PyProof.Rows L2
end GX
namespace G
open PySem L2
section
variable {Z : Wd} {δ : List S} {te : TE} {Φ : D → List S → Prop}
/-- xs[::-1], a list -/
theorem xo_revL {Ω : OD → List S → Prop} (h : XE Z te δ fun d δ1 => ∃ xs, d = .lst xs ∧ Ω (.lst xs.reverse) δ1) : XO Z (tRevL Z.K te) δ Ω := XO.mk fun B W M H σ Q I q =>
  h.run I fun M1 H1 δ1 x a h1 e1 I1 at1 => by
    obtain ⟨xs, rfl, f⟩ := h1
    cases at1 with
    | lst k l c => exact ⟨_, _, rfl, SqL.of (I1.ex _ _ k), fun p hp => newO (o := .lst _) (y := .lst _) I1 hp (AtL.rev ⟨l, c⟩) f e1 q⟩
end
end G
set_option Elab.async false
set_option linter.all false
set_option maxRecDepth 100000
set_option maxHeartbeats 4000000
/-! tuples of texts: t < u, and sorted of a list of them, the first of which is empty -/
namespace GX
open PySem PySem.Spec PySem.W PySem.SeqAt PyProof.Rows L2
def tupS (l : List Str) : PyData := .tuple (l.map .str)
theorem alike_S : ∀ xs ys : List Str, alikeAll (xs.map .str) (ys.map .str) = true
  | [], _ => by simp [alikeAll]
  | _ :: _, [] => by simp [alikeAll]
  | x :: xs, y :: ys => by
    rw [List.map_cons, List.map_cons, alikeAll, alike_S xs ys]
    simp [alike]
theorem deep_S : ∀ xs : List Str, PyData.depthAll (xs.map .str) = 0
  | [] => by simp [PyData.depthAll]
  | x :: xs => by
    rw [List.map_cons, PyData.depthAll, deep_S xs]
    simp [PyData.depth]
theorem deep_tupS (l : List Str) : (tupS l).depth ≤ 1 := by
  unfold tupS PyData.depth
  rw [deep_S]
  exact Nat.le_refl 1
/-- l before m, as tuples -/
def ltS (l m : List Str) : Bool := dataLt (tupS l) (tupS m)
theorem toks_S : ∀ {l m : List Str}, keyToksAll (l.map .str) = keyToksAll (m.map .str) → l = m
  | [], [], _ => rfl
  | [], y :: m, h => by rw [List.map_cons, toks_all_cons] at h; simp [keyToksAll] at h
  | x :: l, [], h => by rw [List.map_cons, toks_all_cons] at h; simp [keyToksAll] at h
  | x :: l, y :: m, h => by
    rw [List.map_cons, List.map_cons, toks_all_cons, toks_all_cons] at h
    have h := (List.cons.inj h).2
    have h1 : Sum.inr x.cps.toList :: keyToksAll (l.map .str) = Sum.inr y.cps.toList :: keyToksAll (m.map .str) := by simpa [keyToks] using h
    obtain ⟨e1, e2⟩ := List.cons.inj h1
    rw [str_of_cps (Sum.inr.inj e1), toks_S e2]
theorem ltS_tri {l m : List Str} (h1 : ltS l m = false) (h2 : ltS m l = false) : l = m := by
  unfold ltS dataLt tupS keyToks at h1 h2
  exact toks_S (lex_total _ _ h1 h2)
def leS : List Str → List Str → Bool := dataLe false tupS
/-- sorted, each once: one before the other -/
theorem sorted_S {ls : List (List Str)} (nd : ls.Nodup) : (ls.mergeSort leS).Pairwise fun a b => ltS a b = true := by
  have p := sort_pairwise (sortLe_total (listOrd itemOrd) false fun b : List Str => keyToks (tupS b)) ls
  have nd2 : (ls.mergeSort leS).Nodup := (List.mergeSort_perm ls leS).nodup_iff.mpr nd
  have p2 : (ls.mergeSort leS).Pairwise fun a b => leS a b = true := p
  refine (p2.and (List.nodup_iff_pairwise_ne.mp nd2)).imp fun {a b} h => ?_
  cases e : ltS a b with
  | true => rfl
  | false =>
    have h1 : (!ltS b a) = true := h.1
    exact absurd (ltS_tri e (by simpa using h1)) h.2
section
variable {prog : Program} {w : World} {A : Around} {E : Value → Shared → Prop} {s : Shared}
/-- one tuple's own < with another one, as sorting asks it -/
theorem one_tup {xs ys : List PyData} {u v : Value} {as bs : List Addr} {Q : Bool → Shared → Prop} (ru : Reads s.heap u (.tuple xs) as) (rv : Reads s.heap v (.tuple ys) bs) (al : alikeAll xs ys = true)
    (rm : A.units + min (PyData.tuple xs).depth (PyData.tuple ys).depth < cLine) (q : Q (dataLt (.tuple xs) (.tuple ys)) s) : wpAny (model prog w) A (oneLt' true u v) Q E s := by
  cases ru with
  | @tuple a o us k _ _ g1 g2 g3 g4 =>
    cases rv with
    | @tuple b p vs j _ _ f1 f2 f3 f4 =>
      have z1 : us.size = xs.length := by simpa using ReadsAll.length _ _ _ g4
      have z2 : vs.size = ys.length := by simpa using ReadsAll.length _ _ _ f4
      rw [dataLt_tuple, ← firstLt_toks xs ys al, ← z1, ← z2] at q
      obtain ⟨cls, dd, data, sl⟩ := o
      obtain ⟨cls', dd', data', sl'⟩ := p
      simp only at g2 g3 f2 f3
      subst g2; subst g3; subst f2; subst f3
      rw [oneLt'_eq, if_pos rfl]
      refine wpAny_bind (wpAny_cRoomFor (room_here rm) (wpAny_bind (wpAny_callSpecialIfBound?_slot (T := "tuple") ⟨_, g1, rfl⟩ F.slot_tuple_lt ?_)))
      refine call_meets F.slot_tuple_lt ⟨_, g1, rfl⟩ F.entry_tuple_lt (F.args_tuple_lt_2 _ _) (tuple_ltAt a b us vs k j dd dd' sl sl' (pairEq xs ys) fun i => dataLt (xs.getD i .none) (ys.getD i .none)) ⟨g1, f1, fun i i1 i2 => ?_, fun i i1 i2 hi => ?_, ?_⟩
      · have t := eqAt_alikeAll xs ys A.in1 s us.toList vs.toList _ _ g4 f4 al (room_in rm) i (by simpa using i1) (by simpa using i2)
        simpa using t
      · have t := rcLt_alikeAll xs ys A.in1 s us.toList vs.toList _ _ g4 f4 al (room_in rm) i (by simpa using i1) (by simpa using i2) hi
        simpa using t
      · exact wpAny_truthy_bool q
theorem mapM_any {α β : Type} {M : Model} {f : α → Sem β} : ∀ (l : List α) {Q : List β → Shared → Prop}, (∀ v ∈ l, ∃ r, ∀ Q' : β → Shared → Prop, Q' r s → wpAny M A (f v) Q' E s) → (∀ rs, Q rs s) → wpAny M A (l.mapM f) Q E s
  | [], _, _, q => by rw [List.mapM_nil]; exact wpAny_pure (q _)
  | x :: l, Q, h, q => by
    rw [List.mapM_cons]
    obtain ⟨r, hr⟩ := h x (by simp)
    exact wpAny_bind (hr _ (wpAny_bind (mapM_any l (fun v hv => h v (List.mem_cons_of_mem _ hv)) fun rs => wpAny_pure (q _))))
theorem kind_S {v : Value} {vs : List Value} {Q : SortKind → Shared → Prop} {as : List Addr} (h0 : Reads s.heap v (.tuple []) as) (h : ∀ u ∈ vs, ∃ xs as, Reads s.heap u (.tuple xs) as) (q : Q oneType' s) : wpAny (model prog w) A (keyKind' (v :: vs).toArray) Q E s := by
  have ty : ∀ u ∈ v :: vs, Looks (model prog w) s.heap (typeOf u) (.type "tuple") := fun u hu => by
    rcases List.mem_cons.mp hu with rfl | hu
    · exact looks_reads h0
    · obtain ⟨xs, as, r⟩ := h u hu
      exact looks_reads r
  have first : ∀ u xs as, Reads s.heap u (.tuple xs) as → ∃ r, (xs = [] → r = none) ∧ ∀ Q' : Option Value → Shared → Prop, Q' r s → wpAny (model prog w) A (firstOfTuple' u) Q' E s := fun u xs as r => by
    have tu : Looks (model prog w) s.heap (typeOf u) (.type "tuple") := looks_reads r
    cases r with
    | @tuple a o us k _ _ g1 g2 g3 g4 =>
      refine ⟨us[0]?, fun e => ?_, fun Q' hq => ?_⟩
      · subst e
        have z1 : us.size = 0 := by simpa using ReadsAll.length _ _ _ g4
        simp [Array.size_eq_zero_iff.mp z1]
      · rw [kas_first_eq]
        refine wpAny_bind (tu.here ?_)
        rw [if_neg (by decide)]
        exact wpAny_bind (wpAny_listItems g1 g3 (wpAny_pure hq))
  rw [keyKind'_eq, List.mapM_toArray, map_eq_pure_bind, List.mapM_cons]
  obtain ⟨r0, e0, q0⟩ := first v [] as h0
  cases e0 rfl
  refine wpAny_bind (wpAny_bind (wpAny_bind (q0 _ (wpAny_bind (mapM_any vs (fun u hu => ?_) fun rs => wpAny_pure (wpAny_pure ?_))))))
  · obtain ⟨xs, as', r⟩ := h u hu
    obtain ⟨r1, _, q1⟩ := first u xs as' r
    exact ⟨r1, q1⟩
  rw [if_neg (by simp), if_neg (by simp)]
  rw [oneTypeOnly'_eq, List.mapM_toArray, map_eq_pure_bind]
  refine wpAny_bind (wpAny_bind (wpAny_bind (kas_mapM (r := Value.type "tuple") _ (fun u hu Q' hq => (ty u hu).here hq) (wpAny_pure ?_))))
  have same : ((v :: vs).map fun _ => Value.type "tuple").toArray.all (fun x => x == Value.type "tuple") = true := by simp
  rw [show ((v :: vs).map fun _ => Value.type "tuple").toArray[0]? = some (.type "tuple") from by simp]
  simp only [same, if_true]
  exact wpAny_pure (wpAny_pure q)
theorem sorts_S {v : Value} {vs : List Value} {ls : List (List Str)} (e : EachIs (fun v l => ∃ as, Reads s.heap v (tupS l) as) (v :: vs) ([] :: ls)) (hu : A.units + 1 < cLine) : SortsAt prog w A s (dataKind s.heap (([] :: ls).map tupS)) (v :: vs) := by
  have al : AllAlike (([] :: ls).map tupS) := AllAlike.of fun b b' => by
    show alike (.tuple _) (.tuple _) = true
    rw [alike]; exact alike_S b b'
  refine ⟨fun u hu' => ?_, oneType', fun E x y a b Q ha hb hq => ?_, fun _ E Q hq => ?_⟩
  · obtain ⟨l, hl, as, r⟩ := e.left u hu'
    exact ⟨_, dataKind_some al (List.mem_map_of_mem hl) r⟩
  · obtain ⟨d, as, hd, ra, rfl⟩ := dataKind_inv ha
    obtain ⟨d', as', hd', rb, rfl⟩ := dataKind_inv hb
    obtain ⟨l, _, rfl⟩ := List.mem_map.mp hd
    obtain ⟨m, _, rfl⟩ := List.mem_map.mp hd'
    rw [keyLt'_oneType]
    refine one_tup ra rb (alike_S l m) ?_ hq
    have := deep_tupS l
    have e : min (tupS l).depth (tupS m).depth ≤ 1 := Nat.le_trans (Nat.min_le_left _ _) this
    exact Nat.lt_of_le_of_lt (Nat.add_le_add_left e _) hu
  · cases e with
    | cons h t =>
      obtain ⟨as, h⟩ := h
      refine kind_S h (fun u hu' => ?_) hq
      obtain ⟨l, _, as', r⟩ := t.left u hu'
      exact ⟨_, as', r⟩
end
end GX
namespace GX
open PySem PySem.Spec PySem.W PySem.SeqAt PyProof.Rows L2
section
variable {X : Cx}
/-- a dict that nobody else holds, from here on as it is -/
def tLk (td : TE) : TE := fun σ H Q => td σ H fun x H1 => ∃ d kvs, x = .ref d ∧ H1 d = some (.dK kvs) ∧ ∀ o, Q x (upd H1 d (.frz o (.dK kvs)))
theorem pe_lk {e : Expr} {td : TE} (he : PE X e td) : PE X e (tLk td) := ⟨fun pins s σ H Q I h => thn (he.run pins s σ H _ I h) fun u s1 ⟨x, H1, I1, rx, d, kvs, ex, hd, q⟩ => by
  obtain ⟨od, I2⟩ := I1.lock hd trivial
  exact ⟨x, _, I2, rx, q od⟩⟩
theorem each_vals {P : V → List Str → Prop} : ∀ {xs : List V} {us : List Value} {ls : List (List Str)}, Vals xs us → EachIs P xs ls → EachIs (fun v l => ∃ x, RelV x v ∧ P x l) us ls
  | _, _, _, .nil, .nil => .nil
  | _, _, _, .cons r t, .cons p q => .cons ⟨_, r, p⟩ (each_vals t q)
theorem vals_each {P : V → List Str → Prop} : ∀ {us : List Value} {ls : List (List Str)}, EachIs (fun v l => ∃ x, RelV x v ∧ P x l) us ls → ∃ xs, Vals xs us ∧ EachIs P xs ls
  | _, _, .nil => ⟨[], .nil, .nil⟩
  | _, _, .cons ⟨x, r, p⟩ t => by
    obtain ⟨xs, h1, h2⟩ := vals_each t
    exact ⟨x :: xs, .cons r h1, .cons p h2⟩
/-- sorted of a list of tuples of texts, the first of which is empty -/
def rSortTS (K : PySem.W.Frag) : List V → Hp → VK → Prop := fun vs H Q => ∃ (a : Addr) (xs : List V) (ls : List (List Str)) (P : V → List Str → Prop), vs = [.ref a] ∧ SqL K H a xs ∧ EachIs P xs ([] :: ls) ∧ (∀ x l, P x l → Dp K H x (tupS l)) ∧
  ∀ ys p, EachIs P ys (([] :: ls).mergeSort leS) → H p = none → Q (.ref p) (upd H p (.lst ys))
theorem cr_sortTS (hu : X.A.units + 65 < cLine) : CallR X (.builtin "sorted") (rSortTS X.K) := by
  intro pins s σ H vs us Q I r h
  obtain ⟨a, xs, ls, P, rfl, hs, e, dp, q⟩ := h
  obtain ⟨its, rv, hl, hz⟩ := I.list hs
  rw [Vals.ref1 r]
  have ev := each_vals rv e
  have er : EachIs (fun v l => ∃ as, Reads (sortingHeap (copyHeap s.heap its) (s.heap.objs.size + 1) its) v (tupS l) as) its ([] :: ls) := ev.mono fun v l ⟨x, rx, px⟩ => by
    obtain ⟨as, ra⟩ := Dp.reads I _ _ _ (dp x l px) rx
    exact ⟨as, PyProof.Rows.Reads.keeps (fun _ _ => sorting_copy_old) ra⟩
  have al : AllAlike (([] :: ls).map tupS) := AllAlike.of fun b b' => by
    show alike (.tuple _) (.tuple _) = true
    rw [alike]; exact alike_S b b'
  have len := rv.length
  obtain ⟨v, rest, rfl⟩ : ∃ v rest, its = v :: rest := by
    cases er with
    | cons _ _ => exact ⟨_, _, rfl⟩
  refine sorted_vals hl.isList (sorts_S (s := { s with heap := sortingHeap (copyHeap s.heap (v :: rest)) (s.heap.objs.size + 1) (v :: rest) }) er (by show X.A.units + 1 + 1 + 1 < cLine; omega)) (by omega) ?_
  obtain ⟨ys, r2, e2⟩ := vals_each (sortVals_data (h' := sortingHeap (copyHeap s.heap (v :: rest)) (s.heap.objs.size + 1) (v :: rest)) false ev er al)
  generalize sortVals (dataKind (sortingHeap (copyHeap s.heap (v :: rest)) (s.heap.objs.size + 1) (v :: rest)) (([] :: ls).map tupS)) false (v :: rest) (v :: rest) = out at r2 ⊢
  obtain ⟨ep, he⟩ := sortedAll_at s.heap (v :: rest) out.toArray
  have hlen : ys.length ≤ sizeLine := by
    have h1 := e2.length
    have h2 := e.length
    rw [List.length_mergeSort] at h1
    omega
  exact ⟨.ref _, upd H (s.heap.objs.size + 1) (.lst ys), I.laid (t' := s.toks) (fun _ _ => sortedAll_old) (Nat.le_succ _) ⟨hlen, out, ep, r2, he⟩, rfl, q ys _ e2 (I.hok.fresh (Nat.le_succ _))⟩
end
end GX
namespace G
open PySem L2
section
variable {Z : Wd} {M : Hp} {δ : List S} {te ta tb : TE} {Φ : D → List S → Prop} {Ω : OD → List S → Prop} {Λ : List D → List S → Prop}
theorem py_S : ∀ l : List Str, pyL (l.map .str) = l.map .str
  | [] => rfl
  | x :: l => by rw [List.map_cons, List.map_cons, ← py_S l]; rfl
theorem dp_S {H : Hp} {v : V} {l : List Str} (a : At Z M v (.tup (l.map .str))) (e : Ex M H) : Dp Z.K H v (GX.tupS l) := by
  have := At.dp _ v a e (show pla (.tup (l.map .str)) = true from pla_strs _)
  rw [show py (.tup (l.map .str)) = GX.tupS l from by show PyData.tuple _ = _; rw [py_S]; rfl] at this
  exact this
/-- for k in d: the keys of a dict that a call has given -/
theorem xi_keysN (h : XO Z te δ fun y δ1 => ∃ kvs : List (Key × D), y = .dic kvs ∧ Λ (kvs.map fun kv => keyD kv.1) δ1) : XI Z (iKeys (GX.tLk te)) δ Λ := fun B W M H σ R I q =>
  h.run I fun M' H' δ' p ho y f e I' a b c d g => by
    obtain ⟨kvs, rfl, f⟩ := f
    obtain ⟨us, rfl, ks, al⟩ := b.dicI
    refine ⟨p, us, rfl, a, fun o => ⟨p, o, rfl, .inl ⟨us, upd_same, ?_⟩⟩⟩
    have J1 : I3 Z B W M' (upd H' p (.frz o (.dK us))) σ δ' := I'.other d c g
    have J2 := J1.hold upd_same c d g
    have ex : Ex M' (upd M' p (.frz o (.dK us))) := Ex.new c
    have len : us.length = kvs.length := by simpa using congrArg List.length ks
    refine q _ _ δ' _ _ f (e.tr ex) J2 ⟨fun i H hi eH => ?_, fun H eH => ?_, fun i H x H' M2 hi e1 e2 yl => ?_⟩
    · rw [List.length_map] at hi
      exact ⟨eH _ _ upd_same, by omega⟩
    · rw [List.length_map]
      exact ⟨eH _ _ upd_same, by omega⟩
    · obtain ⟨rfl, k, v, hk, rfl⟩ := yl
      have : (us.map (·.1))[i]? = some k := by rw [List.getElem?_map, hk]; rfl
      rw [ks, List.getElem?_map] at this
      obtain ⟨kv, h1, rfl⟩ := Option.map_eq_some_iff.mp this
      exact ⟨keyD kv.1, by rw [List.getElem?_map, h1]; rfl, .inl ⟨rfl, at_key⟩⟩
end
end G
set_option Elab.async false
set_option linter.all false
set_option maxRecDepth 100000
set_option maxHeartbeats 4000000
/-! calls whose arguments all have names -/
namespace GX
open PySem PySem.Spec PyProof.Rows L2 ClX
end GX
namespace G
open PySem L2
end G
set_option Elab.async false
set_option linter.all false
set_option maxRecDepth 100000
set_option maxHeartbeats 4000000
/-! where nothing is being shown: repr and str of tuples and lists, defs that use them, the law's own call -/
namespace GG
open PySem PySem.Spec PyProof.Rows L2
/-- what a def promises where nothing is being shown -/
structure FnG (P : Program) (w : World) (K : PySem.W.Frag) (mg : Str → Option Value) (base : Heap) (CX : CXT) (k : Nat) (f : Addr) (fd : FuncData) (ps : List Str) (sp : Sp) : Prop where
  wide : ∀ {vs H Q E}, sp vs H Q E → vs.length = ps.length
  go : ∀ {A outer s H args us vs Q E}, A.guards = some [] → Room k A → Env0 P w K mg base A outer s H → BindsTo s fd args (ps.zip us) → Vals vs us → sp vs H Q E →
    codeAny (model P w) A (.call (.ref f) args) (CR CX outer P w H s Q E) s
section
variable {P : Program} {w : World} {K : PySem.W.Frag} {mg : Str → Option Value} {base : Heap} {k : Nat} {f : Addr} {fd : FuncData} {ps : List Str} {sp : Sp}
theorem FnG.of {CX : CXT} (F : FnOk P w K mg base CX k f fd ps sp) : FnG P w K mg base CX k f fd ps sp :=
  ⟨fun h => F.len _ _ _ _ h, fun _ hr e0 hb r hs => F.run _ _ _ _ _ _ _ _ _ hr e0 hb r hs⟩
theorem FnG.imp {CX : CXT} {sp' : Sp} (F : FnG P w K mg base CX k f fd ps sp) (h : ∀ vs H Q E, sp' vs H Q E → sp vs H Q E) : FnG P w K mg base CX k f fd ps sp' :=
  ⟨fun q => F.wide (h _ _ _ _ q), fun g hr e0 hb r hs => F.go g hr e0 hb r (h _ _ _ _ hs)⟩
theorem FnG.made {CX : CXT} {name qual : Str} {params : Arguments} {body : List Stmt} {scope : Scope} {dV kV doc pm cdv ct oc : Value} {an od : Option Addr} {osl : Array (Option Value)} {N : List Str}
    (lk : K.lookup f = some ⟨oc, od, .func (PySem.W.fnOf name qual params body scope dV kV doc pm an cdv ct), osl⟩) (hcd : PySem.W.codeIn K cdv qual = true) (S : FnScope N ps scope) (len : ∀ vs H Q E, sp vs H Q E → vs.length = ps.length)
    (bd : ∀ (A : Around) (outer : List Env) (s : Shared) (H : Hp) (vs : List V) (Q : VK) (E : XK), A.guards = some [] → Room k (A.deeper (envOfC qual scope s.heap.objs.size f cdv)) → sp vs H Q E →
      ∃ t, PSs (cxOf CX P w K mg base N qual scope f cdv A outer s H E) body t ∧ t { nx := fun _ H' => Q .non H', rt := Q } (start N vs) H) : FnG P w K mg base CX (k + 1) f (PySem.W.fnOf name qual params body scope dV kV doc pm an cdv ct) ps sp := by
  refine ⟨fun h => len _ _ _ _ h, fun {A outer s H args us vs Q E} g hr e0 hb rv hs => ?_⟩
  have kept : ∀ b o, base.get? b = some o → s.heap.get? b = some o := fun b o e => (e0.bs b o e).1
  have kin : K.In s.heap := e0.mod.kin.keeps kept
  have hkind : ∀ y ∈ ps.zip us, scope.names.lookup y.1 = some .local ∨ (scope.names.lookup y.1 = some .cell ∧ ((cellsFrom (s.heap.objs.size + 1) scope.names []).lookup y.1).isSome = true) := by
    rintro ⟨n, v⟩ hy
    exact (S.par n (List.of_mem_zip hy).1).imp id fun q => ⟨q, PySem.W.cellsFrom_some _ _ _ (.inl q)⟩
  have body := codeAny_call_function (prog := P) (w := w) (args := args) (R := CR CX outer P w H s Q E) hr.depth (kin _ _ lk) rfl S.co S.gen rfl
    (PySem.W.codeRec_of kin hcd)
  refine body (hb _ _ _ _ (wpAny_newFunctionEnv_cells S.kind hkind fun env he s1 x => ?_))
  cases he
  refine ⟨(e0.mod.nolimit.keeps kept).keeps x.toInCall.keep, codeAny_func ?_⟩
  obtain ⟨t, ht, hq⟩ := bd A outer s H vs Q E g (hr.deeper _) hs
  refine wpAny_mono (ht.run [] s1 (start N vs) H _ (inv_start S hr.hd e0 (len _ _ _ _ hs) rv x) hq) (fun fl s' z => ?_) fun _ _ z => z
  have close : ∀ {σ2 : L2.St} {H2 : Hp} {v : V} {u : Value}, Inv (cxOf CX P w K mg base N qual scope f cdv A outer s H E) [] σ2 H2 s' → RelV v u → Q v H2 → CE outer P w H s Q u s' := fun J ru q => ⟨_, _, J.os, J.bare, J.base, J.hok, ru, q⟩
  cases fl with
  | ret u => exact let ⟨_, _, _, J, ru, q⟩ := z; close J ru q
  | next => exact let ⟨_, _, J, q⟩ := z; close (v := V.non) J rfl q
  | brk => exact let ⟨_, _, _, q⟩ := z; False.elim q
  | cont => exact let ⟨_, _, _, q⟩ := z; False.elim q
end
/-! ### repr, str -/
end GG
namespace G
open PySem L2
end G
set_option Elab.async false
set_option linter.all false
set_option maxRecDepth 100000
set_option maxHeartbeats 4000000
/-! instances that one def alone holds: made, their methods called; slices of the script -/
namespace G
open PySem L2
section
variable {Z : Wd} {B : Bas} {W : List (Nat × Addr)} {M H : Hp} {σ : St} {δ : List S} {ta te : TE} {tl th : TO} {ts : TA} {Ψ : S → List S → Prop} {Ω : OD → List S → Prop} {Φ : D → List S → Prop} {C : Addr} {c i : Nat} {m : Str}
/-- a slice of the script -/
theorem xo_slScr (h : XE Z te δ fun a δ1 => XP Z tl δ1 fun lo δ2 => XP Z th δ2 fun hi δ3 => ∃ ns : List Int, a = .scr ns ∧ Ω (.lst (cut (ns.map .int) lo hi)) δ3) : XO Z (tSl (rSlL Z.K) te tl th) δ Ω := XO.mk fun B W M H σ Q I q =>
  h.run I fun M1 H1 δ1 x a h1 e1 I1 at1 => h1 B W M1 H1 σ _ I1 fun M2 H2 δ2 lo h2 e2 I2 => h2 B W M2 H2 σ _ I2 fun M3 H3 δ3 hi h3 e3 I3' => by
    obtain ⟨ns, rfl, f⟩ := h3
    cases at1 with
    | scr hs =>
      exact ⟨_, _, rfl, sqL_mono (I3'.ex) (sqL_mono (e2.tr e3) hs), fun p hp => newO I3' hp (show ODAt Z M3 (.lst _) (.lst _) from AtL.cut lo hi (AtL.ofInts ns)) f (e1.tr (e2.tr e3)) q⟩
end
end G
set_option Elab.async false
set_option linter.all false
set_option maxRecDepth 100000
set_option maxHeartbeats 4000000
/-! calls within comprehensions within comprehensions: their rules know K -/
namespace GK
open PySem L2 G
theorem call_list_ofK {X : Cx} {K : PySem.W.Frag} (h : X.K = K) : CallR X (.type "list") (fun xs H Q => ∃ p ys, xs = [.ref p] ∧ (SqL K H p ys ∨ SqT K H p ys) ∧ ∀ (l : Addr), H l = none → Q (.ref l) (upd H l (.lst ys))) := by subst h; exact call_list_of
end GK
namespace G
open PySem L2
end G
set_option Elab.async false
set_option linter.all false
set_option maxRecDepth 100000
set_option maxHeartbeats 4000000
/-! defs that borrow their first two arguments, each an object that the caller alone holds -/
namespace G
open PySem L2
end G
set_option Elab.async false
set_option linter.all false
set_option maxRecDepth 100000
set_option maxHeartbeats 4000000
/-! tuples known to be plain ones; own dicts whose keys are such tuples -/
namespace G
open PySem L2
section
variable {Z : Wd} {M H M' H' : Hp} {B : Bas} {W : List (Nat × Addr)} {σ : St} {δ : List S} {te ty tv : TE} {ts : TA} {Φ : D → List S → Prop} {Ω : OD → List S → Prop} {bs : List Nat} {P : Po}
theorem xe_wkT (h : XE Z te δ fun d δ1 => ∃ xs, d = .tupT xs ∧ Φ (.tup xs) δ1) : XE Z te δ Φ := XE.mk fun B W M H σ Q I q =>
  h.run I fun M1 H1 δ1 x a h1 e1 I1 at1 => by
    obtain ⟨xs, rfl, f⟩ := h1
    cases at1 with
    | tupT k l c => exact q M1 H1 δ1 _ _ f e1 I1 (.tup (.inl (.inl k)) l c)
theorem xe_tupT (h : XA Z ts δ fun ds δ1 => ds.length ≤ 1000000 ∧ Φ (.tupT ds) δ1) : XE Z (tTup ts) δ Φ := XE.mk fun B W M H σ Q I q =>
  h B W M H σ _ I fun M1 H1 δ1 vs ds h1 e1 I1 al => by
    refine ⟨Nat.le_trans (by rw [al.len]; exact h1.1) (by decide), fun p hp => ?_⟩
    have hm := I1.ex.free hp
    exact q _ _ δ1 _ _ h1.2 (e1.tr (Ex.new hm)) (I1.grow hp) (.tupT upd_same al.len (al.mono (Ex.new hm)).at')
theorem xe_tupleT (h : XE Z te δ fun d δ1 => ∃ xs, d = .lst xs ∧ Φ (.tupT xs) δ1) : XE Z (tCB (rTuple Z.K) (tCons te tNil)) δ Φ := XE.mk fun B W M H σ Q I q =>
  h.run I fun M1 H1 δ1 x a h1 e1 I1 at1 => by
    obtain ⟨xs, rfl, f⟩ := h1
    cases at1 with
    | @lst b vs _ k l c =>
      refine ⟨b, vs, rfl, .inl ⟨SqL.of (I1.ex _ _ k), fun p hp => ?_⟩⟩
      have hm := I1.ex.free hp
      exact q _ _ δ1 _ _ f (e1.tr (Ex.new hm)) (I1.grow hp) (.tupT upd_same l ((⟨l, c⟩ : AtL Z M1 vs xs).mono (Ex.new hm)).at')
def keysD (k : List Key) : List D := k.map keyD
theorem keys_at : ∀ {k : List Key} {vs : List V}, AtL Z M vs (keysD k) → vs = k.map kV
  | [], vs, a => by rw [a.inv0]; rfl
  | x :: k, vs, a => by
    obtain ⟨v, ws, rfl, a1, a2⟩ := a.inv
    rw [key_at a1, keys_at a2]; rfl
theorem key_ref {v : V} {k : List Key} (a : At Z M v (.tupT (keysD k))) : ∃ b, v = .ref b ∧ M b = some (.tup (k.map kV)) := by
  cases a with
  | @tupT b vs _ h l c =>
    have : vs = k.map kV := keys_at ⟨l, c⟩
    exact ⟨b, rfl, this ▸ h⟩
def dgetT (kvs : List (List Key × D)) (k : List Key) : Option D := (kvs.find? fun kv => decide (kv.1 = k)).map (·.2)
def dputT (kvs : List (List Key × D)) (k : List Key) (d : D) : List (List Key × D) := if (kvs.any fun kv => decide (kv.1 = k)) = true then kvs.map (fun kv => if kv.1 = k then (kv.1, d) else kv) else kvs ++ [(k, d)]
theorem dgetT_at {k : List Key} : ∀ {kvs : List (List Key × D)} {us : List (List Key × V)}, us.map (·.1) = kvs.map (·.1) → AtL Z M (us.map (·.2)) (kvs.map (·.2)) → (dgetT kvs k = none → valV us k = none) ∧ ∀ d, dgetT kvs k = some d → ∃ v, valV us k = some v ∧ At Z M v d
  | [], [], _, _ => ⟨fun _ => rfl, nofun⟩
  | [], _ :: _, h, _ => nomatch h
  | _ :: _, [], h, _ => nomatch h
  | (k1, d1) :: kvs, (k2, v2) :: us, h, a => by
    obtain ⟨rfl, h'⟩ := List.cons.inj h
    obtain ⟨v, ws, e, a1, a2⟩ := AtL.inv (a : AtL Z M (v2 :: us.map (·.2)) (d1 :: kvs.map (·.2)))
    obtain ⟨rfl, rfl⟩ := List.cons.inj e
    have ih := dgetT_at (k := k) h' a2
    by_cases c : k2 = k
    · subst c
      refine ⟨fun z => by simp [dgetT] at z, fun d z => ⟨v2, valV_pos rfl, ?_⟩⟩
      simp [dgetT] at z
      exact z ▸ a1
    · have e1 : dgetT ((k2, d1) :: kvs) k = dgetT kvs k := by simp [dgetT, List.find?_cons, c]
      rw [e1, valV_neg c]
      exact ih
theorem dputT_at {k : List Key} {v : V} {d : D} (av : At Z M v d) {kvs : List (List Key × D)} {us : List (List Key × V)} (h : us.map (·.1) = kvs.map (·.1)) (a : AtL Z M (us.map (·.2)) (kvs.map (·.2))) : (putK us k v).map (·.1) = (dputT kvs k d).map (·.1) ∧ AtL Z M ((putK us k v).map (·.2)) ((dputT kvs k d).map (·.2)) := by
  have any : (us.any fun kv => decide (kv.1 = k)) = kvs.any fun kv => decide (kv.1 = k) := by
    have h1 : (us.any fun kv => decide (kv.1 = k)) = (us.map (·.1)).any fun x => decide (x = k) := by rw [List.any_map]; rfl
    have h2 : (kvs.any fun kv => decide (kv.1 = k)) = (kvs.map (·.1)).any fun x => decide (x = k) := by rw [List.any_map]; rfl
    rw [h1, h2, h]
  unfold putK dputT
  rw [any]
  split
  · rename_i hh; clear any hh
    induction us generalizing kvs with
    | nil => cases kvs with
      | nil => exact ⟨rfl, .nil⟩
      | cons x y => cases h
    | cons u us ih => cases kvs with
      | nil => cases h
      | cons x kvs =>
        obtain ⟨k1, v1⟩ := u
        obtain ⟨k2, d2⟩ := x
        obtain ⟨e, h'⟩ := List.cons.inj h
        obtain rfl : k1 = k2 := e
        obtain ⟨v0, ws, e2, a1, a2⟩ := AtL.inv (a : AtL Z M (v1 :: us.map (·.2)) (d2 :: kvs.map (·.2)))
        obtain ⟨rfl, rfl⟩ := List.cons.inj e2
        obtain ⟨i1, i2⟩ := ih h' a2
        by_cases c : k1 = k
        · simp only [List.map_cons, if_pos c]
          exact ⟨by rw [i1], .cons av i2⟩
        · simp only [List.map_cons, if_neg c]
          exact ⟨by rw [i1], .cons a1 i2⟩
  · refine ⟨by rw [List.map_append, List.map_append, h]; rfl, ?_⟩
    rw [List.map_append, List.map_append]
    exact AtL.app a (.one av)
theorem xo_dnewT (h : Ω (.dT []) δ) : XO Z tDNewT δ Ω := XO.mk fun B W M H σ Q I q => fun p hp => newO (o := .dT []) (y := .dT []) I hp ⟨rfl, .nil⟩ h Ex.rfl' q
/-- d[k], d an own dict keyed by tuples -/
theorem xe_dgetTO {i : Nat} (hv : ∃ y, δ[i]? = some (.own y)) (h : XE Z ty δ fun b δ2 => ∃ kvs k d, δ2[i]? = some (.own (.dT kvs)) ∧ b = .tupT (keysD k) ∧ dgetT kvs k = some d ∧ Φ d δ2) : XE Z (tDGet (tVar i) ty) δ Φ := XE.mk fun B W M H σ Q I q => by
  obtain ⟨y, hy⟩ := hv
  obtain ⟨o, e, p, ho, rfl, _⟩ := I.sl i _ hy
  refine ⟨_, e, h.run I fun M2 H2 δ2 v b h2 e2 I2 at2 => ?_⟩
  obtain ⟨kvs, k, d, hx, rfl, hd, f⟩ := h2
  obtain ⟨o', e', p', ho', rfl, hp', hy', _⟩ := I2.sl i _ hx
  rw [e] at e'; cases e'
  obtain ⟨us, rfl, ks, a⟩ := hy'.dTI
  obtain ⟨v1, hv1, a1⟩ := (dgetT_at ks a).2 d hd
  obtain ⟨b, rfl, hb⟩ := key_ref at2
  exact ⟨_, v1, rfl, hv1 ▸ DGet.t hp' (I2.ex _ _ hb), q M2 H2 δ2 _ _ f e2 I2 a1⟩
/-- d[k] = v -/
theorem xs_dputT {i : Nat} (h : XE Z tv δ fun d δ1 => (∃ y, δ1[i]? = some (.own y)) ∧ XE Z ty δ1 fun b δ2 => ∃ kvs k, δ2[i]? = some (.own (.dT kvs)) ∧ b = .tupT (keysD k) ∧ kvs.length < 1000000 ∧ P.N (δ2.set i (.own (.dT (dputT kvs k d))))) :
    XS Z bs (sDPut (tVar i) ty tv) δ P := fun B W M H σ E hb I e => h.run I fun M1 H1 δ1 x d h1 e1 I1 at1 => by
  obtain ⟨⟨y, hy⟩, h1⟩ := h1
  obtain ⟨o, e0, p, ho, rfl, _⟩ := I1.sl i _ hy
  refine ⟨_, e0, XE.run h1 I1 fun M2 H2 δ2 v b h2 e2 I2 at2 => ?_⟩
  obtain ⟨kvs, k, hx, rfl, hl, f⟩ := h2
  obtain ⟨o', e', p', ho', rfl, hp', hy', _⟩ := I2.sl i _ hx
  rw [e0] at e'; cases e'
  obtain ⟨us, rfl, ks, a⟩ := hy'.dTI
  obtain ⟨b, rfl, hb⟩ := key_ref at2
  have lu : us.length = kvs.length := by simpa using congrArg List.length ks
  refine ⟨_, _, rfl, DPut.t hp' (I2.ex _ _ hb) (Nat.lt_of_lt_of_le (by rw [lu]; exact hl) (by decide)), ?_⟩
  exact e.nx _ _ _ _ f (e1.tr e2) (I2.write e0 hx (ho := .dT _) (y' := .dT _) (dputT_at (at1.mono e2) ks a))
end
/-- a lot, as a plain tuple -/
def lotT (l : List Str) : D := .tupT (l.map .str)
theorem py_lotsT : ∀ ls : List (List Str), pyL (ls.map lotT) = pyL (ls.map lotD)
  | [] => rfl
  | l :: ls => by show py (lotT l) :: pyL (ls.map lotT) = py (lotD l) :: pyL (ls.map lotD); rw [py_lotsT ls]; rfl
theorem pla_lotsT : ∀ ls : List (List Str), plaL (ls.map lotT) = true
  | [] => rfl
  | l :: ls => by show (plaL (l.map .str) && plaL (ls.map lotT)) = true; rw [pla_strs, pla_lotsT ls]; rfl
theorem lotT_key (l : List Str) : lotT l = .tupT (keysD (l.map .inr)) := by unfold lotT keysD; rw [List.map_map]; rfl
end G
set_option Elab.async false
set_option linter.all false
set_option maxRecDepth 100000
set_option maxHeartbeats 4000000
/-! dicts of lists that grow; dict comprehensions; dicts that are walked; sorted of any alike data -/
namespace GX
open PySem PySem.Spec PySem.W PySem.SeqAt PyProof.Rows L2
/-- a name and a lot -/
def encP (p : Str × List Str) : PyData := .tuple [.str p.1, .tuple (p.2.map .str)]
end GX
namespace G
open PySem L2
section
variable {Z : Wd} {M H M' H' : Hp} {B : Bas} {W : List (Nat × Addr)} {σ σ' : St} {δ δ' : List S}
variable {te ta tb ty tv tk : TE} {tt : TT} {s1 s2 : TS} {Φ : D → List S → Prop} {Ω : OD → List S → Prop} {Λ : List D → List S → Prop} {bs vs : List Nat} {P : Po} {wi : TI} {g : TG}
/-! ### dicts that are walked -/
/-- a dict that a call has given, from here on as it is -/
theorem xe_lk (h : XO Z te δ fun y δ' => ∃ kvs : List (Key × D), y = .dic kvs ∧ Φ (.dicF (kvs.map (·.1)) (kvs.map (·.2))) δ') : XE Z (GX.tLk te) δ Φ := XE.mk fun B W M H σ Q I q =>
  h.run I fun M' H' δ' p ho y f e I' a b c d g => by
    obtain ⟨kvs, rfl, f⟩ := f
    obtain ⟨us, rfl, ks, al⟩ := b.dicI
    refine ⟨p, us, rfl, a, fun o => ?_⟩
    have J1 : I3 Z B W M' (upd H' p (.frz o (.dK us))) σ δ' := I'.other d c g
    have ex : Ex M' (upd M' p (.frz o (.dK us))) := Ex.new c
    exact q _ _ δ' _ _ f (e.tr ex) (J1.hold upd_same c d g) (.dicF upd_same ks al.len (al.mono ex).at')
/-- for k, v in d.items() -/
theorem xi_itemsF (h : XE Z te δ fun d δ1 => ∃ kvs : List (Key × D), d = .dicF (kvs.map (·.1)) (kvs.map (·.2)) ∧ Λ (kvs.map fun kv => .tup [keyD kv.1, kv.2]) δ1) : XI Z (iItems te) δ Λ := fun B W M H σ R I q =>
  h.run I fun M1 H1 δ1 x a h1 e1 I1 at1 => by
    obtain ⟨kvs, rfl, f⟩ := h1
    cases at1 with
    | @dicF p o us _ _ m ks l c =>
      have len : us.length = kvs.length := by simpa using congrArg List.length ks
      refine ⟨p, o, us, rfl, I1.ex _ _ m, q _ _ δ1 _ _ f e1 I1 ⟨fun i H hi eH => ?_, fun H eH => ?_, fun i H x H' M2 hi e1 e2 yl => ?_⟩⟩
      · rw [List.length_map] at hi
        exact ⟨eH _ _ m, by omega⟩
      · rw [List.length_map]
        exact ⟨eH _ _ m, by omega⟩
      · obtain ⟨T, k, v, hk, rfl, hT, rfl⟩ := yl
        have k1 : (us.map (·.1))[i]? = some k := by rw [List.getElem?_map, hk]; rfl
        rw [ks, List.getElem?_map] at k1
        obtain ⟨kv, h1, rfl⟩ := Option.map_eq_some_iff.mp k1
        have a2 : At Z M2 v kv.2 := (c i v kv.2 (by rw [List.getElem?_map, hk]; rfl) (by rw [List.getElem?_map, h1]; rfl)).mono e1
        exact ⟨_, by rw [List.getElem?_map, h1]; rfl, .inr ⟨T, [kV kv.1, v], [keyD kv.1, kv.2], hT, rfl, rfl, .cons at_key (.one a2), rfl⟩⟩
/-- d[k], d such a dict -/
theorem xe_dgetF (h : XE Z ta δ fun a δ1 => XE Z ty δ1 fun b δ2 => ∃ kvs k d, a = .dicF (kvs.map (·.1)) (kvs.map (·.2)) ∧ b = keyD k ∧ dget kvs k = some d ∧ Φ d δ2) : XE Z (tDGet ta ty) δ Φ := XE.mk fun B W M H σ Q I q =>
  h.run I fun M1 H1 δ1 x a h1 e1 I1 at1 => XE.run h1 I1 fun M2 H2 δ2 v b h2 e2 I2 at2 => by
    obtain ⟨kvs, k, d, rfl, rfl, hd, f⟩ := h2
    cases key_at at2
    cases at1.mono e2 with
    | @dicF p o us _ _ m ks l c =>
      obtain ⟨v1, hv1, a1⟩ := (dget_at (M := M2) ks ⟨l, c⟩).2 d hd
      exact ⟨_, v1, rfl, .inl ⟨us, k, .inr ⟨o, I2.ex _ _ m⟩, rfl, hv1.symm⟩, q M2 H2 δ2 _ _ f (e1.tr e2) I2 a1⟩
/-! ### {k: v for ..} -/
theorem xo_dc (h : XI Z wi δ fun xs δ0 => (∀ v ∈ vs, δ0[v]? = some .no) ∧ xs.length ≤ 1000000 ∧ ∃ J : Nat → List (Key × D) → List S → Prop, J 0 [] δ0 ∧
      (∀ i d acc δ1 bs, (∀ v ∈ vs, v ∉ bs) → xs[i]? = some d → J i acc δ1 → XG Z vs bs g d δ1 fun δ2 => XT Z tt δ2 fun b δ3 => if b = true then XE Z tk δ3 fun y δ4 => XE Z tv δ4 fun z δ5 => ∃ k, y = keyD k ∧ dget acc k = none ∧ J (i + 1) (acc ++ [(k, z)]) (wipeS δ5 vs) else J (i + 1) acc (wipeS δ3 vs)) ∧
      ∀ acc δ1, J xs.length acc δ1 → Ω (.dic acc) δ1) : XO Z (tDc wi g tt tk tv vs) δ Ω := XO.mk fun B W M H σ Q I q =>
  h B W M H σ _ I fun M' H1 δ' J xs f e1 I1 wd A hA => by
    obtain ⟨hno, hxs, Jv, j0, js, jn⟩ := f
    have hAB := I1.fresh hA
    have hAm := I1.ex.free hA
    refine ⟨fun i m H => m = xs.length - i ∧ i ≤ xs.length ∧ ∃ M'' δ'' acc us, Ex M' M'' ∧ I3 Z B W M'' H σ δ'' ∧ Jv i acc δ'' ∧ H A = some (.dK us) ∧ us.map (·.1) = acc.map (·.1) ∧ AtL Z M'' (us.map (·.2)) (acc.map (·.2)) ∧ M'' A = none ∧ (∀ j, ¬ Own σ δ'' j A) ∧ (∀ v ∈ vs, δ''[v]? = some .no) ∧ acc.length ≤ i,
      ⟨_, rfl, Nat.zero_le _, M', δ', [], [], Ex.rfl', I1.other hAB hAm (I1.newOwn hA), j0, upd_same, rfl, .nil, hAm, I1.newOwn hA, hno, Nat.le_refl _⟩, ?_⟩
    rintro i m Ha ⟨rfl, hi, M'', δ'', acc, us, a, Ia, ja, hA1, ks, al, hAm1, hAo, hno1, hacc⟩
    by_cases lt : i < xs.length
    · refine .inr ⟨wd.go i Ha lt (a.tr Ia.ex), fun Hn => i + 1 ≤ xs.length ∧ ∃ M'' δ'' acc us, Ex M' M'' ∧ I3 Z B W M'' Hn σ δ'' ∧ Jv (i + 1) acc δ'' ∧ Hn A = some (.dK us) ∧ us.map (·.1) = acc.map (·.1) ∧ AtL Z M'' (us.map (·.2)) (acc.map (·.2)) ∧ M'' A = none ∧ (∀ j, ¬ Own σ δ'' j A) ∧ (∀ v ∈ vs, δ''[v]? = some .no) ∧ acc.length ≤ i + 1,
        fun H' z => ⟨xs.length - (i + 1), by omega, rfl, z⟩, fun x Hb yl => ?_⟩
      obtain ⟨d, M2, hd, e2, I2, at2, k2, m2⟩ := YD.use (wd.walk.yields i Ha x Hb lt (a.tr Ia.ex) yl) a Ia
      obtain ⟨W2, hbs, Iw, fin⟩ := I2.turnO (vs := vs) (k2 _ _ hA1) (m2 _ _ hA1 hAm1) hAo hno1
      refine js i d acc δ'' _ hbs hd ja _ _ M2 Hb (wipe σ vs) x _ rfl Iw at2 fun M3 H3 σ3 δ3 h3 e3 J3 k3 l3 => ⟨(wipe_eq k3 l3).trans (wipe_eq (fun j hj => wipe_out hj) (wipe_length _ _)), ?_⟩
      refine h3 _ _ M3 H3 σ3 _ J3 fun M4 H4 δ4 b h4 e4 J4 => ?_
      cases b with
      | false =>
        rw [if_neg Bool.false_ne_true] at h4 ⊢
        obtain ⟨⟨z1, z2, z3, z4, z5⟩, _⟩ := fin M4 H4 σ3 δ4 (e3.tr e4) k3 l3 J4
        exact ⟨lt, M4, _, _, _, a.tr (e2.tr (e3.tr e4)), z1, h4, z2, ks, al.mono (e2.tr (e3.tr e4)), z3, z4, z5, Nat.le_succ_of_le hacc⟩
      | true =>
        rw [if_pos rfl] at h4 ⊢
        refine XE.run h4 J4 fun M5 H5 δ5 y' d' h5 e5 J5 at5 => XE.run h5 J5 fun M6 H6 δ6 z' d6 h6 e6 J6 at6 => ?_
        obtain ⟨k, rfl, hk, h6⟩ := h6
        cases key_at at5
        have ex6 : Ex M2 M6 := e3.tr (e4.tr (e5.tr e6))
        obtain ⟨⟨z1, z2, z3, z4, z5⟩, _⟩ := fin M6 H6 σ3 δ6 ex6 k3 l3 J6
        have lu : us.length = acc.length := by simpa using congrArg List.length ks
        have no := (dget_at (M := M'') ks al).1 hk
        have put : putK us k z' = us ++ [(k, z')] := by unfold putK; rw [valV_any, no]; rfl
        refine ⟨us, k, rfl, z2, Nat.lt_of_lt_of_le (by omega : us.length < 1000001) (by decide), lt, M6, _, _, us ++ [(k, z')], a.tr (e2.tr ex6), z1.other hAB z3 z4, h6, by rw [put, upd_same], by simp [ks], ?_, z3, z4, z5, by rw [List.length_append, List.length_singleton]; omega⟩
        rw [List.map_append, List.map_append]
        exact AtL.app (al.mono (e2.tr ex6)) (.one at6)
    · obtain rfl : i = xs.length := by omega
      exact .inl ⟨wd.stop Ha (a.tr Ia.ex), q M'' Ha δ'' A _ (.dic acc) (jn _ _ ja) (e1.tr a) Ia hA1 ⟨ks, al⟩ hAm1 hAB hAo⟩
/-! ### a dict of lists that grow: held loosely -/
structure Fr (B : Bas) (M : Hp) (σ : St) (δ : List S) (q : Addr) : Prop where
  m : M q = none
  b : B.h q = none
  o : ∀ i, ¬ Own σ δ i q
structure Lo (Z : Wd) (B : Bas) (M H : Hp) (σ : St) (δ : List S) (p : Addr) (gs : List (Key × List D)) (qs : List Addr) : Prop where
  hp : H p = some (.dK ((gs.map (·.1)).zip (qs.map V.ref)))
  len : qs.length = gs.length
  nd : (p :: qs).Nodup
  fr : ∀ q ∈ p :: qs, Fr B M σ δ q
  ls : ∀ (i : Nat) q x, qs[i]? = some q → gs[i]? = some x → ∃ vs, H q = some (.lst vs) ∧ AtL Z M vs x.2
  kn : (gs.map (·.1)).Nodup
variable {p : Addr} {gs : List (Key × List D)} {qs : List Addr}
theorem Lo.here (L : Lo Z B M H σ δ p gs qs) {q : Addr} (hq : q ∈ p :: qs) : ∃ o, H q = some o := by
  rcases List.mem_cons.mp hq with rfl | hq
  · exact ⟨_, L.hp⟩
  · obtain ⟨i, hi⟩ := List.mem_iff_getElem?.mp hq
    have : i < gs.length := by rw [← L.len]; exact (List.getElem?_eq_some_iff.mp hi).1
    obtain ⟨vs, e, _⟩ := L.ls i q _ hi (List.getElem?_eq_getElem this)
    exact ⟨_, e⟩
theorem Lo.nt (L : Lo Z B M H σ δ p gs qs) {q : Addr} {o : HO} (hq : q ∈ p :: qs) (e : H q = some o) : NT o := by
  rcases List.mem_cons.mp hq with rfl | hq
  · rw [L.hp] at e; cases e; exact fun _ e => nomatch e
  · obtain ⟨i, hi⟩ := List.mem_iff_getElem?.mp hq
    have : i < gs.length := by rw [← L.len]; exact (List.getElem?_eq_some_iff.mp hi).1
    obtain ⟨vs, e2, _⟩ := L.ls i q _ hi (List.getElem?_eq_getElem this)
    rw [e2] at e; cases e; exact fun _ e => nomatch e
theorem Lo.move (L : Lo Z B M H σ δ p gs qs) (ex : Ex M M') (st : ∀ q o, q ∈ p :: qs → H q = some o → H' q = some o ∧ Fr B M' σ' δ' q) : Lo Z B M' H' σ' δ' p gs qs := by
  refine ⟨(st p _ (by simp) L.hp).1, L.len, L.nd, fun q hq => ?_, fun i q x hi hx => ?_, L.kn⟩
  · obtain ⟨o, e⟩ := L.here hq
    exact (st q o hq e).2
  · obtain ⟨vs, e, a⟩ := L.ls i q x hi hx
    exact ⟨vs, (st q _ (List.mem_cons_of_mem _ (List.mem_of_getElem? hi)) e).1, a.mono ex⟩
/-- code that runs in between does not touch it -/
theorem Lo.keep {W2 : List (Nat × Addr)} (L : Lo Z B M H σ δ p gs qs) (hW : ∀ i a, (i, a) ∈ W2 ↔ Own σ δ i a) (ex : Ex M M') (J : I3 Z ⟨H, M⟩ W2 M' H' σ' δ') : Lo Z B M' H' σ' δ' p gs qs :=
  L.move ex fun q o hq e => by
    have f := L.fr q hq
    obtain ⟨a, b, c⟩ := J.stays e f.m (fun i hi => f.o i ((hW i q).mp hi)) (L.nt hq e)
    exact ⟨a, c, f.b, b⟩
theorem Lo.same (L : Lo Z B M H σ δ p gs qs) (ex : Ex M M') (k : ∀ a o, H a = some o → H' a = some o) (m : ∀ a o, H a = some o → M a = none → M' a = none) : Lo Z B M' H' σ δ p gs qs :=
  L.move ex fun q o hq e => by
    have f := L.fr q hq
    exact ⟨k q o e, m q o e f.m, f.b, f.o⟩
variable {N : List S → List (Key × List D) → Prop}
/-- the list at place i grows -/
theorem Lo.grow {i : Nat} {q : Addr} {k : Key} {xs : List D} {d : D} {vs : List V} {v : V} (L : Lo Z B M H σ δ p gs qs) (hq : qs[i]? = some q) (hg : gs[i]? = some (k, xs)) (hv : H q = some (.lst vs)) (ha : AtL Z M vs xs) (hd : At Z M v d) :
    Lo Z B M (upd H q (.lst (vs ++ [v]))) σ δ p (gs.set i (k, xs ++ [d])) qs := by
  have nd := List.nodup_cons.mp L.nd
  have hp : p ≠ q := fun e => nd.1 (e ▸ List.mem_of_getElem? hq)
  have ks : (gs.set i (k, xs ++ [d])).map (·.1) = gs.map (·.1) := by
    apply List.ext_getElem?
    intro j
    rw [List.getElem?_map, List.getElem?_map, List.getElem?_set]
    by_cases e : i = j
    · subst e
      rw [if_pos rfl, if_pos (List.getElem?_eq_some_iff.mp hg).1, hg]; rfl
    · rw [if_neg e]
  refine ⟨by rw [upd_ne hp, ks]; exact L.hp, by rw [List.length_set]; exact L.len, L.nd, L.fr, fun j r x hj hx => ?_, by rw [ks]; exact L.kn⟩
  by_cases e : i = j
  · subst e
    rw [hq] at hj; cases hj
    rw [List.getElem?_set_self (List.getElem?_eq_some_iff.mp hg).1] at hx; cases hx
    exact ⟨_, upd_same, AtL.app ha (.one hd)⟩
  · rw [List.getElem?_set_ne e] at hx
    have hr : r ≠ q := fun z => by
      subst z
      obtain ⟨l1, e1⟩ := List.getElem?_eq_some_iff.mp hq
      obtain ⟨l2, e2⟩ := List.getElem?_eq_some_iff.mp hj
      exact e ((List.getElem_inj nd.2).mp (e1.trans e2.symm))
    rw [upd_ne hr]
    exact L.ls j r x hj hx
def pairD (p : Str × List Str) : D := .tup [.str p.1, .tup (p.2.map .str)]
theorem pair_py (p : Str × List Str) : pla (pairD p) = true ∧ py (pairD p) = GX.encP p := by
  unfold pairD GX.encP
  constructor
  · simp [pla, plaL, pla_strs]
  · simp [py, pyL, py_S]
end
end G
set_option Elab.async false
set_option linter.all false
set_option maxRecDepth 100000
set_option maxHeartbeats 4000000
/-! min(xs, key=len, default=None) -/
namespace GX
open PySem PySem.Spec PySem.W PyProof.Rows L2
end GX
namespace G
open PySem L2
end G
set_option Elab.async false
set_option linter.all false
set_option maxRecDepth 100000
set_option maxHeartbeats 4000000
/-! sorted of ints; lots in tuples, compared; an int in a tuple of ints -/
namespace G
open PySem L2
end G
set_option Elab.async false
set_option linter.all false
set_option maxRecDepth 100000
set_option maxHeartbeats 4000000
/-! bit_length; a dict locked where a comprehension of two clauses walks it -/
namespace G
open PySem L2
section
variable {Z : Wd} {δ : List S} {te : TE} {Φ : D → List S → Prop} {g g1 : TG} {tt tt1 : TT} {wi1 : TI} {vs vs1 : List Nat}
theorem xe_bits (h : XE Z te δ fun d δ1 => ∃ i, d = .int i ∧ Φ (.int ((PySem.Builtin.Int.intBits i : Nat) : Int)) δ1) : XE Z (tBits te) δ Φ := XE.mk fun B W M H σ Q I q =>
  h.run I fun M1 H1 δ1 x a h1 e1 I1 at1 => by
    obtain ⟨i, rfl, f⟩ := h1
    cases at1
    exact ⟨i, rfl, q M1 H1 δ1 _ _ f e1 I1 .int⟩
end
end G
set_option Elab.async false
set_option linter.all false
set_option maxRecDepth 100000
set_option maxHeartbeats 4000000
/-! min of alike data -/
namespace GX
open PySem PySem.Spec PySem.W PySem.SeqAt PyProof.Rows L2
end GX
namespace G
open PySem L2
end G
namespace GX
open PySem PySem.Spec PySem.W PySem.SeqAt PyProof.Rows L2
end GX
namespace G
open PySem L2
end G
set_option Elab.async false
set_option linter.all false
set_option maxRecDepth 100000
set_option maxHeartbeats 4000000
/-! {k: v} with a tuple as its key -/
namespace GX
open PySem PySem.Spec PyProof.Rows L2
end GX
namespace G
open PySem L2
end G
set_option Elab.async false
set_option linter.all false
set_option maxRecDepth 100000
set_option maxHeartbeats 4000000
/-! deals: a list of a list of ints and an int, which one slot alone holds -/
namespace G
open PySem L2
/-- what a deal holds -/
structure Dl where
  cs : List Int
  n : Int
abbrev FD := Dl → List D → (S → Dl → Prop) → Prop
/-- the first argument is a deal, borrowed -/
def spD (Z : Wd) (F : FD) : Sp := fun vs H Q _ => ∃ M p q y ws ds Φ, vs = .ref p :: ws ∧ SlotOk Z M H (some (.ref p)) (.deal q y.cs y.n) ∧ Ex M H ∧ AtL Z M ws ds ∧ F y ds Φ ∧
  ∀ M' H' v s y', Φ s y' → Ex M M' → Ex M' H' → (∀ a o, a ≠ p → a ≠ q → H a = some o → H' a = some o) → (∀ p o, H p = some o → M p = none → NT o → M' p = none) → SlotOk Z M' H' (some (.ref p)) (.deal q y'.cs y'.n) → RetOk Z ⟨H, M⟩ M' H' v s → Q v H'
section
variable {Z : Wd} {B : Bas} {W : List (Nat × Addr)} {M H M' H' : Hp} {σ : St} {δ : List S} {ts : TA} {te ta tb : TE} {Ψ : S → List S → Prop} {Φ : D → List S → Prop} {bs : List Nat} {P : Po}
theorem I3.dealAt (I : I3 Z B W M H σ δ) {i : Nat} {q : Addr} {cs : List Int} {n : Int} (h : δ[i]? = some (.deal q cs n)) : ∃ p, σ[i]? = some (some (.ref p)) ∧ H p = some (.lst [.ref q, .int n]) ∧ H q = some (.lst (cs.map V.int)) ∧ M p = none ∧ M q = none ∧ p ≠ q := by
  obtain ⟨o, e, p, rfl, k⟩ := I.sl i _ h
  exact ⟨p, e, k⟩
theorem hol_deal {q : Addr} {cs cs' : List Int} {n n' : Int} : ∀ p a, Hol p (.deal q cs n) a ↔ Hol p (.deal q cs' n') a := fun _ _ => Iff.rfl
/-- a call that borrows the deal of slot i -/
theorem xr_callD {F : FD} {dvs : List V} {dds : List D} {E : XK} {i : Nat} (hd : ∀ M : Hp, AtL Z M dvs dds) (hv : ∃ q cs n, δ[i]? = some (.deal q cs n)) (h : XA Z ts δ fun ds δ1 => ∃ q y, δ1[i]? = some (.deal q y.cs y.n) ∧ F y (ds ++ dds) fun s y' => Ψ s (δ1.set i (.deal q y'.cs y'.n))) : XR Z (tCall (spD Z F) dvs E (tCons (tVar i) ts)) δ Ψ := fun B W M H σ Q I k => by
  obtain ⟨q, cs, n, hy⟩ := hv
  obtain ⟨p, e, _⟩ := I.dealAt hy
  refine ⟨_, e, h B W M H σ _ I fun M1 H1 δ1 vs ds h1 e1 I1 al => ?_⟩
  obtain ⟨q1, y, hy1, ff⟩ := h1
  obtain ⟨p1, e', d1, d2, d3, d4, d5⟩ := I1.dealAt hy1
  rw [e] at e'; cases e'
  refine ⟨M1, p, q1, y, vs ++ dvs, ds ++ dds, _, rfl, ⟨p, rfl, d1, d2, d3, d4, d5⟩, I1.ex, al.app (hd M1), ff, fun M' H' v s y' g a1 a2 a3 a4 a5 r => ?_⟩
  exact k M' H' _ v s g (e1.tr a1) (I1.afterS e hy1 hol_deal a1 a2 (fun a o no => a3 a o (fun z => no ⟨p, _, e, hy1, .inl z⟩) (fun z => no ⟨p, _, e, hy1, .inr z⟩)) a4 a5) (ret_res I1 (fun j z o => (Own.setS hy1 hol_deal).mp o) r)
/-- a def's body whose first argument is a deal -/
theorem entD {ts : TS} {N : List Str} {ws : List V} {p q : Addr} {y : Dl} {Q : VK} {n : Nat} {ds : List D} {Φ : S → Dl → Prop} (so : SlotOk Z M H (some (.ref p)) (.deal q y.cs y.n)) (ex : Ex M H) (al : AtL Z M ws ds) (hn : N.length = ds.length + 1 + n)
    (k : ∀ M' H' v s y', Φ s y' → Ex M M' → Ex M' H' → (∀ a o, a ≠ p → a ≠ q → H a = some o → H' a = some o) → (∀ p o, H p = some o → M p = none → NT o → M' p = none) → SlotOk Z M' H' (some (.ref p)) (.deal q y'.cs y'.n) → RetOk Z ⟨H, M⟩ M' H' v s → Q v H')
    (hx : XS Z [0, 0] ts (.deal q y.cs y.n :: (ds.map .d ++ List.replicate n .no)) { N := fun δ' => ∃ y', δ'[0]? = some (.deal q y'.cs y'.n) ∧ Φ (.d .non) y', R := fun s δ' => ∃ y', δ'[0]? = some (.deal q y'.cs y'.n) ∧ Φ s y' }) : ts { nx := fun _ H' => Q .non H', rt := Q } (L2.start N (.ref p :: ws)) H := by
  have hlen := al.len
  have only : ∀ i a, Own (L2.start N (V.ref p :: ws)) (S.deal q y.cs y.n :: (ds.map S.d ++ List.replicate n S.no)) i a → i = 0 ∧ (a = p ∨ a = q) := fun i a o => by
    obtain ⟨r, y', e0, e, c⟩ := o
    cases i with
    | zero =>
      have : some (some (V.ref p)) = some (some (V.ref r)) := e0
      cases this
      cases e; exact ⟨rfl, c⟩
    | succ i =>
      rw [List.getElem?_cons_succ] at e
      exact (plain_no e _ _ c).elim
  have mem : ∀ i a, (i, a) ∈ [(0, p), (0, q)] ↔ i = 0 ∧ (a = p ∨ a = q) := fun i a => by
    simp only [List.mem_cons, Prod.mk.injEq, List.not_mem_nil, or_false]
    constructor
    · rintro (⟨h, r⟩ | ⟨h, r⟩)
      · exact ⟨h, .inl r⟩
      · exact ⟨h, .inr r⟩
    · rintro ⟨h, r | r⟩
      · exact .inl ⟨h, r⟩
      · exact .inr ⟨h, r⟩
  have I : I3 Z ⟨H, M⟩ [(0, p), (0, q)] M H (L2.start N (V.ref p :: ws)) (S.deal q y.cs y.n :: (ds.map S.d ++ List.replicate n S.no)) := by
    refine ⟨ex, fun _ _ _ e _ => e, fun _ _ e _ => e, ?_, fun i s e => ?_, fun i a w => ?_, fun i a o => ?_, fun i j a o o' => ?_⟩
    · unfold L2.start; simp; omega
    · cases i with
      | zero => cases e; exact ⟨some (.ref p), rfl, so⟩
      | succ i =>
        rw [List.getElem?_cons_succ] at e
        have es : (L2.start N (V.ref p :: ws))[i + 1]? = (ws.map some ++ List.replicate n (none : Option V))[i]? := by
          unfold L2.start
          have : N.length - (V.ref p :: ws).length = n := by simp; omega
          rw [this]; rfl
        rw [es]
        by_cases hi : i < ds.length
        · rw [List.getElem?_append_left (by simp [hi]), List.getElem?_map] at e
          cases e1 : ds[i]? with
          | none => rw [e1] at e; cases e
          | some d =>
            rw [e1] at e; cases e
            obtain ⟨v, e2, a⟩ := al.get e1
            refine ⟨some v, ?_, v, rfl, a⟩
            rw [List.getElem?_append_left (by simp; omega), List.getElem?_map, e2]; rfl
        · rw [List.getElem?_append_right (by simp; omega), List.getElem?_replicate] at e
          split at e
          · rename_i h1
            cases e
            refine ⟨none, ?_, trivial⟩
            rw [List.getElem?_append_right (by simp; omega), List.getElem?_replicate, if_pos (by simp at h1 ⊢; omega)]
          · cases e
    · obtain ⟨rfl, h⟩ := (mem i a).mp w
      exact ⟨p, _, rfl, rfl, h⟩
    · exact .inl ((mem i a).mpr (only i a o))
    · rw [(only i a o).1, (only j a o').1]
  have fin : ∀ M' H' σ' δ' y', I3 Z ⟨H, M⟩ [(0, p), (0, q)] M' H' σ' δ' → δ'[0]? = some (.deal q y'.cs y'.n) → (∀ a o, a ≠ p → a ≠ q → H a = some o → H' a = some o) ∧ SlotOk Z M' H' (some (.ref p)) (.deal q (Dl.cs y') y'.n) := fun M' H' σ' δ' y' J e => by
    refine ⟨fun a o h1 h2 e => J.keep a o e fun i hi => ?_, ?_⟩
    · rcases ((mem i a).mp hi).2 with z | z
      · exact h1 z
      · exact h2 z
    · obtain ⟨p', e0, d1, d2, d3, d4, d5⟩ := J.dealAt e
      obtain ⟨r, s, f1, f2, f3⟩ := J.bor 0 p (by simp)
      rw [e] at f2; cases f2
      rw [e0] at f1; cases f1
      have hp : p' = p := by
        rcases f3 with z | z
        · exact z.symm
        · obtain ⟨r2, s2, g1, g2, g3⟩ := J.bor 0 q (by simp)
          rcases so with ⟨_, z0, _, _, _, _, z5⟩
          cases z0
          exact absurd z z5
      subst hp
      exact ⟨p', rfl, d1, d2, d3, d4, d5⟩
  refine hx ⟨H, M⟩ [(0, p), (0, q)] M H _ _ rfl I ⟨fun M' H' σ' δ' f e J => ?_, fun M' H' σ' δ' v s f e J r => ?_, fun _ _ _ _ f => f.elim, fun _ _ _ _ f => f.elim, fun _ _ => trivial⟩
  · obtain ⟨y', hy', f⟩ := f
    obtain ⟨k1, k2⟩ := fin _ _ _ _ _ J hy'
    exact k M' H' .non (.d .non) y' f e J.ex k1 J.mg k2 .non
  · obtain ⟨y', hy', f⟩ := f
    obtain ⟨k1, k2⟩ := fin _ _ _ _ _ J hy'
    exact k M' H' v s y' f e J.ex k1 J.mg k2 r
/-! ### what is in a deal -/
theorem ix0 {K : PySem.W.Frag} {p q : Addr} {n : Int} {Q : VK} (h : H p = some (.lst [.ref q, .int n])) (k : Q (.ref q) H) : rIx K (.ref p) (.int 0) H Q := .inl ⟨p, _, 0, _, rfl, rfl, SqL.of h, rfl, k⟩
theorem ix1 {K : PySem.W.Frag} {p q : Addr} {n : Int} {Q : VK} (h : H p = some (.lst [.ref q, .int n])) (k : Q (.int n) H) : rIx K (.ref p) (.int 1) H Q := .inl ⟨p, _, 1, _, rfl, rfl, SqL.of h, rfl, k⟩
theorem dp_ints {K : PySem.W.Frag} : ∀ cs : List Int, DpAll K H (cs.map V.int) (cs.map PyData.int)
  | [] => .nil
  | c :: cs => .cons (.int c) (dp_ints cs)
theorem lay_ints : ∀ cs : List Int, PyData.canLayAll0 (cs.map PyData.int) = true ∧ PyData.depthAll (cs.map PyData.int) = 0
  | [] => ⟨rfl, rfl⟩
  | c :: cs => by
    have := lay_ints cs
    refine ⟨?_, ?_⟩
    · show PyData.canLayAll0 (PyData.int c :: cs.map PyData.int) = true
      rw [PyData.canLayAll0.eq_2, this.1]
      unfold PyData.canLay0; rfl
    · show PyData.depthAll (PyData.int c :: cs.map PyData.int) = 0
      rw [PyData.depthAll.eq_2, this.2]; rfl
theorem shaped_ints (cs : List Int) : SeqAt.shaped (.list (cs.map PyData.int)) = true := by
  have := lay_ints cs
  show (PyData.canLay0 (PyData.list (cs.map PyData.int)) && decide ((PyData.list (cs.map PyData.int)).depth ≤ 64)) = true
  rw [PyData.canLay0.eq_5, this.1]
  unfold PyData.depth
  rw [this.2]; decide
theorem neq_ints (cs : List Int) : (!PyData.eqv (.list (cs.map PyData.int)) (.list [])) = !cs.isEmpty := by
  cases cs with
  | nil => rfl
  | cons c cs => rfl
variable {i : Nat} {q : Addr} {cs : List Int} {n : Int}
/-- d[0] != [] -/
theorem xe_dealNe (h : δ[i]? = some (.deal q cs n)) (k : Φ (.bl (!cs.isEmpty)) δ) : XE Z (tOp (rNeD Z.K) (tOp (rIx Z.K) (tVar i) (tC (.int 0))) (tLst tNil)) δ Φ := XE.mk fun B W M H σ Q I f => by
  obtain ⟨p, e, d1, d2, d3, d4, d5⟩ := I.dealAt h
  refine ⟨_, e, ix0 d1 ⟨Nat.zero_le _, fun r hr => ?_⟩⟩
  have hq : (upd H r (.lst [])) q = some (.lst (cs.map V.int)) := by rw [upd_ne (ne_of_none d2 hr)]; exact d2
  refine ⟨.list (cs.map .int), .list [], .lst (SqL.of hq) (dp_ints cs), .lst (SqL.of upd_same) .nil, shaped_ints cs, rfl, ?_⟩
  rw [neq_ints]
  exact f M _ δ _ _ k Ex.rfl' (I.other (I.fresh hr) (I.ex.free hr) (I.newOwn hr)) .bl
/-- d[0][k] -/
theorem xe_dealIx (h : δ[i]? = some (.deal q cs n)) (k : XE Z tb δ fun b δ1 => δ1 = δ ∧ ∃ j c, b = .int j ∧ atI cs j = some c ∧ Φ (.int c) δ) : XE Z (tOp (rIx Z.K) (tOp (rIx Z.K) (tVar i) (tC (.int 0))) tb) δ Φ := XE.mk fun B W M H σ Q I f => by
  obtain ⟨p, e, d1, d2, d3, d4, d5⟩ := I.dealAt h
  refine ⟨_, e, ix0 d1 (XE.run k I fun M1 H1 δ1 x b h1 e1 I1 at1 => ?_)⟩
  obtain ⟨rfl, j, c, rfl, hc, g⟩ := h1
  cases at1
  obtain ⟨p', e', f1, f2, f3, f4, f5⟩ := I1.dealAt h
  refine .inl ⟨q, _, j, .int c, rfl, rfl, SqL.of f2, by rw [atI_map, hc]; rfl, f M1 H1 _ _ _ g e1 I1 .int⟩
/-- d[1] -/
theorem xe_dealN (h : δ[i]? = some (.deal q cs n)) (k : Φ (.int n) δ) : XE Z (tOp (rIx Z.K) (tVar i) (tC (.int 1))) δ Φ := XE.mk fun B W M H σ Q I f => by
  obtain ⟨p, e, d1, d2, d3, d4, d5⟩ := I.dealAt h
  exact ⟨_, e, ix1 d1 (f M H δ _ _ k Ex.rfl' I .int)⟩
theorem I3.dealWrite (I : I3 Z B W M H σ δ) {cs' : List Int} {p : Addr} (h : δ[i]? = some (.deal q cs n)) (e : σ[i]? = some (some (.ref p))) : I3 Z B W M (upd H q (.lst (cs'.map V.int))) σ (δ.set i (.deal q cs' n)) := by
  obtain ⟨p', e', d1, d2, d3, d4, d5⟩ := I.dealAt h
  rw [e] at e'; cases e'
  exact I.writeS e h hol_deal (fun a no => upd_ne fun z => no ⟨p, _, e, h, .inr z⟩) ⟨p, rfl, by rw [upd_ne d5]; exact d1, upd_same, d3, d4, d5⟩
/-- d[0].pop() -/
theorem xe_dealPop {c : Int} (h : δ[i]? = some (.deal q (cs ++ [c]) n)) (k : Φ (.int c) (δ.set i (.deal q cs n))) : XE Z (tBM0 Z.K "list" rPop (tOp (rIx Z.K) (tVar i) (tC (.int 0)))) δ Φ := XE.mk fun B W M H σ Q I f => by
  obtain ⟨p, e, d1, d2, d3, d4, d5⟩ := I.dealAt h
  refine ⟨_, e, ix0 d1 ⟨.inl ⟨rfl, _, SqL.of d2⟩, q, _, .int c, rfl, rfl, d2, by simp, ?_⟩⟩
  have : ((cs ++ [c]).map V.int).dropLast = cs.map V.int := by simp
  rw [this]
  exact f M _ _ _ _ k Ex.rfl' (I.dealWrite h e) .int
/-- d[0].append(e) -/
theorem xe_dealApp (hv : ∃ q cs n, δ[i]? = some (.deal q cs n)) (h : XE Z te δ fun d δ1 => ∃ q cs n c, δ1[i]? = some (.deal q cs n) ∧ δ1 = δ ∧ d = .int c ∧ cs.length < 1000000 ∧ Φ .non (δ1.set i (.deal q (cs ++ [c]) n))) : XE Z (tBM Z.K "list" rAppend (tOp (rIx Z.K) (tVar i) (tC (.int 0))) (tCons te tNil)) δ Φ := XE.mk fun B W M H σ Q I f => by
  obtain ⟨q0, cs0, n0, h0⟩ := hv
  obtain ⟨p, e, d1, d2, d3, d4, d5⟩ := I.dealAt h0
  refine ⟨_, e, ix0 d1 ⟨.inl ⟨rfl, _, SqL.of d2⟩, XE.run h I fun M1 H1 δ1 x d h1 e1 I1 at1 => ?_⟩⟩
  obtain ⟨q, cs, n, c, hy, rfl, rfl, hl, g⟩ := h1
  cases at1
  rw [h0] at hy; cases hy
  obtain ⟨p', e', f1, f2, f3, f4, f5⟩ := I1.dealAt h0
  rw [e] at e'; cases e'
  refine ⟨q0, _, _, rfl, rfl, f2, Nat.lt_of_lt_of_le (by rw [List.length_map]; exact hl) (by decide), ?_⟩
  have : cs0.map V.int ++ [V.int c] = (cs0 ++ [c]).map V.int := by simp
  rw [this]
  exact f M1 _ _ _ _ g e1 (I1.dealWrite h0 e) .non
/-- d[1] = e -/
theorem xs_deal1 (h : XE Z te δ fun d δ1 => ∃ q cs n c, δ1[i]? = some (.deal q cs n) ∧ d = .int c ∧ P.N (δ1.set i (.deal q cs c))) : XS Z bs (tAsg te (gSub (tVar i) (tC (.int 1)) rSetL)) δ P := fun B W M H σ E hb I f =>
  h.run I fun M1 H1 δ1 x d h1 e1 I1 at1 => by
    obtain ⟨q, cs, n, c, hy, rfl, g⟩ := h1
    cases at1
    obtain ⟨p, e, d1, d2, d3, d4, d5⟩ := I1.dealAt hy
    refine ⟨_, e, p, _, 1, 1, rfl, rfl, d1, rfl, f.nx _ _ _ _ g e1 (I1.writeS e hy hol_deal (fun a no => upd_ne fun z => no ⟨p, _, e, hy, .inl z⟩) ⟨p, rfl, upd_same, by rw [upd_ne d5.symm]; exact d2, d3, d4, d5⟩)⟩
/-- [xs, n], xs a new list of ints -/
theorem xr_deal (h : XO Z ta δ fun y δ1 => ∃ cs : List Int, y = .lst (cs.map .int) ∧ XE Z tb δ1 fun b δ2 => ∃ n, b = .int n ∧ ∀ q, Ψ (.deal q cs n) δ2) : XR Z (tLst (tCons ta (tCons tb tNil))) δ Ψ := fun B W M H σ Q I f => by
  show ta σ H _
  exact XO.run h I fun M1 H1 δ1 p ho y h1 e1 I1 a1 a2 a3 a4 a5 => by
    obtain ⟨cs, rfl, h1⟩ := h1
    obtain ⟨vs, rfl, al⟩ := a2.lstI
    have := al.ints
    subst this
    refine XE.run h1 I1.rebase fun M2 H2 δ2 x b h2 e2 J at2 => ?_
    obtain ⟨n, rfl, g⟩ := h2
    cases at2
    obtain ⟨k1, k2, k3⟩ := J.stays a1 a3 (fun i hi => a5 i (mem_owns.mp hi)) (.own a2)
    have I2 := I1.back (fun _ _ => mem_owns) J
    refine ⟨by show 2 ≤ sizeLine; decide, fun r hr => ?_⟩
    have hpr : p ≠ r := ne_of_none k1 hr
    have I3' := I2.other (o := .lst [.ref p, .int n]) (I2.fresh hr) (I2.ex.free hr) (I2.newOwn hr)
    refine f _ _ _ _ _ (g p) (e1.tr e2) I3' ⟨r, rfl, ⟨r, rfl, upd_same, by rw [upd_ne hpr]; exact k1, I2.ex.free hr, k3, hpr.symm⟩, fun a ha => ?_⟩
    rcases ha with rfl | rfl
    · exact ⟨I2.fresh hr, I2.newOwn hr⟩
    · exact ⟨a4, k2⟩
theorem xs_retS (h : XR Z te δ fun s δ' => P.R s δ') : XS Z bs (tRet te) δ P := fun B W M H σ E hb I e =>
  h B W M H σ _ I fun M1 H1 δ1 v s h1 e1 I1 r => e.rt _ _ _ _ _ s h1 e1 I1 (by
    cases s with
    | no => exact r
    | d x => exact r
    | own y => obtain ⟨p, ho, a, b, c, d, f, _⟩ := r; exact ⟨p, ho, a, b, c, d, f⟩
    | deal q cs n => obtain ⟨p, a, b, c⟩ := r; exact ⟨p, a, b, fun x hx => (c x hx).1⟩)
/-- x = e, e a new deal -/
theorem xs_setD (hi : i ∉ bs) (h : XR Z te δ fun s δ' => ∃ q cs n, s = .deal q cs n ∧ i < δ'.length ∧ P.N (δ'.set i (.deal q cs n))) : XS Z bs (tAsg te (gName i)) δ P := fun B W M H σ E hb I e =>
  h B W M H σ _ I fun M1 H1 δ1 v s h1 e1 I1 r => by
    obtain ⟨q, cs, n, rfl, hl, g⟩ := h1
    obtain ⟨p, rfl, so, k⟩ := r
    exact e.nx _ _ _ _ g e1 (I1.putS (not_bor hb hi) hl so (fun a ha => (k a ha).1) fun a ha => (k a ha).2)
end
end G
set_option Elab.async false
set_option linter.all false
set_option maxRecDepth 100000
set_option maxHeartbeats 4000000
namespace GX
open PySem PySem.Spec PySem.W PyProof.Rows L2
/-- a text times a number -/
def rMulS : R2 := fun x y H Q => ∃ z i, x = .str z ∧ y = .int i ∧ z.length ≤ 16 ∧ 0 ≤ i ∧ i ≤ 1000 ∧ Q (.str (Txt.mul z i)) H
theorem op_mulS {X : Cx} : OpR X (binaryOp .Mult) rMulS := by
  intro pins s σ H x y v u Q I rx ry h
  obtain ⟨z, i, rfl, rfl, hz, h0, h1, q⟩ := h
  obtain ⟨t, rfl⟩ := rx
  obtain ⟨t', rfl⟩ := ry
  exact KXi.mul rfl hz (by omega) (by omega) fun t' k _ _ => ⟨.str (Txt.mul z i), H, I.tok _, ⟨_, rfl⟩, q⟩
end GX
namespace G
open PySem L2
variable {Z : Wd} {ta tb tc : TE} {δ : List S} {Φ : D → List S → Prop} {bs : List Nat} {P : Po}
theorem xe_mulS (h : XE Z ta δ fun a δ1 => XE Z tb δ1 fun b δ2 => ∃ z i, a = .str z ∧ b = .int i ∧ z.length ≤ 16 ∧ 0 ≤ i ∧ i ≤ 1000 ∧ Φ (.str (Txt.mul z i)) δ2) : XE Z (tOp GX.rMulS ta tb) δ Φ := XE.mk fun B W M H σ Q I q =>
  h.run I fun M1 H1 δ1 x a h1 e1 I1 at1 => XE.run h1 I1 fun M2 H2 δ2 y b h2 e2 I2 at2 => by
    obtain ⟨z, i, rfl, rfl, l0, l1, l2, f⟩ := h2
    cases at1; cases at2
    exact ⟨z, i, rfl, rfl, l0, l1, l2, q M2 H2 δ2 _ _ f (e1.tr e2) I2 .str⟩
end G
set_option Elab.async false
set_option linter.all false
set_option maxRecDepth 100000
set_option maxHeartbeats 4000000
namespace G
open PySem L2
variable {Z : Wd} {ta tb tc : TE} {δ : List S} {Φ : D → List S → Prop} {bs : List Nat} {P : Po}
theorem dgetT_opt {M : Hp} {kvs : List (List Key × D)} {us : List (List Key × V)} {k : List Key} (ks : us.map (·.1) = kvs.map (·.1)) (a : AtL Z M (us.map (·.2)) (kvs.map (·.2))) : (valV us k).isSome = (dgetT kvs k).isSome := by
  obtain ⟨h1, h2⟩ := dgetT_at (k := k) ks a
  cases e : dgetT kvs k with
  | none => rw [h1 e]; rfl
  | some d => obtain ⟨v, hv, _⟩ := h2 d e; rw [hv]; rfl
theorem xe_dninT {i : Nat} (h : XE Z ta δ fun a δ1 => ∃ kvs k, δ1[i]? = some (.own (.dT kvs)) ∧ a = .tupT (keysD k) ∧ Φ (.bl (!(dgetT kvs k).isSome)) δ1) : XE Z (tDNotIn ta (tVar i)) δ Φ := XE.mk fun B W M H σ Q I q =>
  h.run I fun M1 H1 δ1 x a h1 e1 I1 at1 => by
    obtain ⟨kvs, k, hx, rfl, f⟩ := h1
    obtain ⟨o', e', p', ho', rfl, hp', hy', _⟩ := I1.sl i _ hx
    obtain ⟨us, rfl, ks, al⟩ := hy'.dTI
    obtain ⟨b, rfl, hb⟩ := key_ref at1
    refine ⟨_, e', p', valV us k, rfl, .inr ⟨us, k, b, .inl hp', rfl, I1.ex _ _ hb, rfl⟩, ?_⟩
    rw [dgetT_opt ks al]
    exact q M1 H1 δ1 _ _ f e1 I1 .bl
end G
set_option Elab.async false
set_option linter.all false
set_option maxRecDepth 100000
set_option maxHeartbeats 4000000
namespace GX
open PySem PySem.Spec PySem.W PySem.SeqAt PyProof.Rows L2
variable {X : Cx}
/-- x < y, any data that are alike -/
def rLtAny (K : PySem.W.Frag) : R2 := fun x y H Q => ∃ a b : PyData, Dp K H x a ∧ Dp K H y b ∧ alike a b = true ∧ a ≠ .none ∧ a.depth ≤ 3 ∧ Q (.bl (dataLt a b)) H
theorem op_ltAny (hu : X.A.units + 65 < cLine) : OpR X (compareOp .Lt) (rLtAny X.K) := fun pins s σ H x y v u Q I rx ry ⟨l, m, dx, dy, al, hn, de, q⟩ => by
  obtain ⟨as, ra⟩ := Dp.reads I _ _ _ dx rx
  obtain ⟨bs, rb⟩ := Dp.reads I _ _ _ dy ry
  have e : min l.depth m.depth ≤ 3 := Nat.le_trans (Nat.min_le_left _ _) de
  exact lt_data ra rb al hn (by omega) ⟨.bl (dataLt l m), H, I, rfl, q⟩
end GX
namespace G
open PySem L2
section
variable {Z : Wd} {M : Hp} {ta tb tc : TE} {δ : List S} {Φ : D → List S → Prop} {Λ : List D → List S → Prop} {bs : List Nat} {P : Po}
theorem xe_ltAny (h : XE Z ta δ fun a δ1 => XE Z tb δ1 fun b δ2 => pla a = true ∧ pla b = true ∧ PySem.W.alike (py a) (py b) = true ∧ py a ≠ .none ∧ (py a).depth ≤ 3 ∧ Φ (.bl (PySem.W.dataLt (py a) (py b))) δ2) : XE Z (tOp (GX.rLtAny Z.K) ta tb) δ Φ := XE.mk fun B W M H σ Q I q =>
  h.run I fun M1 H1 δ1 x a h1 e1 I1 at1 => XE.run h1 I1 fun M2 H2 δ2 y b h2 e2 I2 at2 => by
    obtain ⟨pa, pb, al, hn, de, f⟩ := h2
    exact ⟨_, _, At.dp a x (at1.mono e2) I2.ex pa, At.dp b y at2 I2.ex pb, al, hn, de, q M2 H2 δ2 _ _ f (e1.tr e2) I2 .bl⟩
end
end G
set_option Elab.async false
set_option linter.all false
set_option maxRecDepth 100000
set_option maxHeartbeats 4000000
namespace G
open PySem L2
end G
set_option Elab.async false
set_option linter.all false
set_option maxRecDepth 100000
set_option maxHeartbeats 4000000
/-! a comprehension that walks an own list, which stays as it is -/
namespace G
open PySem L2
end G
set_option Elab.async false
set_option linter.all false
set_option maxRecDepth 100000
set_option maxHeartbeats 4000000
/-! dict(list of pairs) whose keys are tuples of texts and whole numbers -/
namespace GX
open PySem PySem.Spec PyProof.Rows L2
end GX
namespace G
open PySem L2
end G
set_option Elab.async false
set_option linter.all false
set_option maxRecDepth 100000
set_option maxHeartbeats 4000000
/-! sorted lots that are keys afterwards -/
namespace G
open PySem L2
section
variable {Z : Wd} {te : TE} {δ : List S} {Ω : OD → List S → Prop}
theorem atT_up {M : Hp} {v : V} {xs : List D} (a : At Z M v (.tupT xs)) : At Z M v (.tup xs) := by
  cases a with
  | tupT h l c => exact .tup (SqT.of h) l c
theorem each_atT {M : Hp} : ∀ {vs : List V} {ls : List (List Str)}, AtL Z M vs (ls.map fun l => D.tupT (l.map .str)) → PySem.W.EachIs (fun x (l : List Str) => At Z M x (.tupT (l.map .str))) vs ls
  | vs, [], h => by rw [h.inv0]; exact .nil
  | vs, l :: ls, h => by
    obtain ⟨v, ws, rfl, a, t⟩ := h.inv
    exact .cons a (each_atT t)
theorem atT_each {M : Hp} : ∀ {vs : List V} {ls : List (List Str)}, PySem.W.EachIs (fun x (l : List Str) => At Z M x (.tupT (l.map .str))) vs ls → AtL Z M vs (ls.map fun l => D.tupT (l.map .str))
  | _, _, .nil => .nil
  | _, _, .cons a t => AtL.cons a (atT_each t)
theorem xo_sortTK (h : XE Z te δ fun d δ1 => ∃ ls : List (List Str), d = .lst (([] :: ls).map fun l => D.tupT (l.map .str)) ∧ Ω (.lst ((([] :: ls).mergeSort GX.leS).map fun l => D.tupT (l.map .str))) δ1) : XO Z (tCB (GX.rSortTS Z.K) (tCons te tNil)) δ Ω := XO.mk fun B W M H σ Q I q =>
  h.run I fun M1 H1 δ1 x a h1 e1 I1 at1 => by
    obtain ⟨ls, rfl, f⟩ := h1
    cases at1 with
    | @lst a us _ k l c => exact ⟨a, us, ls, fun x l => At Z M1 x (.tupT (l.map .str)), rfl, SqL.of (I1.ex _ _ k), each_atT ⟨l, c⟩, fun x l h => dp_S (atT_up h) I1.ex, fun ys p e hp => newO (o := .lst _) (y := .lst _) I1 hp (atT_each e) f e1 q⟩
end
end G
set_option Elab.async false
set_option linter.all false
set_option maxRecDepth 100000
set_option maxHeartbeats 4000000
/-! dicts as data: d.get(k), isinstance, dict(pairs); max of ints -/
namespace G
open PySem L2
end G
set_option Elab.async false
set_option linter.all false
set_option maxRecDepth 100000
set_option maxHeartbeats 4000000
/-! list(d.values()); dicts looked at, changed, popped, handed on -/
namespace GX
open PySem PySem.Spec PySem.W PySem.SeqAt PyProof.Rows L2
end GX
set_option Elab.async false
set_option linter.all false
set_option maxRecDepth 100000
set_option maxHeartbeats 4000000
/-! own dicts: looked at, changed, popped, lent, locked where they are returned -/
namespace G
open PySem L2
end G
set_option Elab.async false
set_option linter.all false
set_option maxRecDepth 100000
set_option maxHeartbeats 4000000
/-! list(d) of an own dict keyed by tuples: tuples of the heap become known -/
namespace GX
open PySem L2
end GX
namespace G
open PySem L2
section
variable {Z : Wd} {M M' H H' : Hp} {σ : St} {δ : List S} {B : Bas} {W : List (Nat × Addr)} {Ω : OD → List S → Prop}
/-- what is known and some tuples of the heap -/
def learn (M H : Hp) (bs : List Addr) : Hp := fun a => if a ∈ bs then H a else M a
theorem learn_in {bs : List Addr} {b : Addr} (h : b ∈ bs) : learn M H bs b = H b := if_pos h
theorem learn_ex {bs : List Addr} (e : Ex M H) : Ex M (learn M H bs) := fun a u h => by
  unfold learn
  split
  · exact e a u h
  · exact h
theorem learn_to {bs : List Addr} (e : Ex M H) : Ex (learn M H bs) H := fun a u h => by
  unfold learn at h
  split at h
  · exact h
  · exact e a u h
theorem I3.learn (I : I3 Z B W M H σ δ) {bs : List Addr} (t : ∀ b ∈ bs, ∃ vs, H b = some (.tup vs)) : I3 Z B W (learn M H bs) H σ δ := by
  have ex := learn_ex (bs := bs) I.ex
  have no : ∀ {p : Addr} {ho : HO}, H p = some ho → NT ho → M p = none → G.learn M H bs p = none := fun {p ho} hp nt hm => by
    unfold G.learn
    split
    · rename_i hb
      obtain ⟨vs, e⟩ := t p hb
      rw [hp] at e; cases e
      exact absurd rfl (nt vs)
    · exact hm
  refine ⟨learn_to I.ex, fun a o e n nt => ?_, I.keep, I.len, fun i s e => ?_, I.bor, I.own, I.dis⟩
  · cases q : H a with
    | none => rw [I.fresh q] at e; cases e
    | some u => exact no q (I.nt e nt q) (I.mg a o e n nt)
  · obtain ⟨v, c, d⟩ := I.sl i s e
    refine ⟨v, c, ?_⟩
    cases s with
    | no => trivial
    | d x => obtain ⟨u, f, g⟩ := d; exact ⟨u, f, g.mono ex⟩
    | own y =>
      obtain ⟨q, hq, f, g, k, l⟩ := d
      exact ⟨q, hq, f, g, k.mono ex, no g (.own k) l⟩
    | deal q cs n =>
      obtain ⟨r, f, g, k, l, m, o⟩ := d
      exact ⟨r, f, g, k, no g (fun _ e => nomatch e) l, no k (fun _ e => nomatch e) m, o⟩
end
end G
set_option Elab.async false
set_option linter.all false
set_option maxRecDepth 100000
set_option maxHeartbeats 4000000
/-! sets whose members are tuples of texts and of such tuples: adding, and sorted of them -/
namespace GN
open PySem PySem.Spec PyProof.Rows L2
section
variable {P : Program} {w : World} {A : Around} {E : Value → Shared → Prop} {s : Shared}
/-! ### what a search asks of a key -/
/-- the tuple at a is the key k -/
abbrev Nk (P : Program) (w : World) (h : Heap) (k : NestedKey) (a : Addr) : Prop := (nestedKind P w).is h k a
/-! ### the set as it stands -/
def ent (w : World) (L : List (Addr × NestedKey)) : List (Int × Value) := L.map fun p => (p.2.hash w, Value.ref p.1)
theorem ent_get {L : List (Addr × NestedKey)} {i : Nat} {p : Addr × NestedKey} (h : L[i]? = some p) : (ent w L)[i]? = some (p.2.hash w, Value.ref p.1) := by
  unfold ent; rw [List.getElem?_map, h]; rfl
structure Ns (P : Program) (w : World) (h : Heap) (a : Addr) (L : List (Addr × NestedKey)) (es : Array (Int × Value)) (ep : Nat) (t : SetTable) : Prop where
  ob : ∃ o, h.get? a = some o ∧ o.ExactSet ∧ o.data = .set es ep t
  row : es.toList = ent w L
  tab : TabOk t (L.map fun p => p.2.hash w)
  nd : (L.map (·.2)).Nodup
  key : ∀ p ∈ L, Nk P w h p.2 p.1
  led : w.params.followText "set-order" = true ∨ t.led = true
  room : L.length * 5 < t.mask * 3
  few : L.length < 64
variable {a : Addr} {L : List (Addr × NestedKey)} {es : Array (Int × Value)} {ep : Nat} {t : SetTable}
theorem Ns.at (R : Ns P w s.heap a L es ep t) {i : Nat} {p : Addr × NestedKey} (h : L[i]? = some p) : es[i]? = some (p.2.hash w, Value.ref p.1) := by
  rw [← Array.getElem?_toList, R.row]; exact ent_get h
theorem Ns.sz (R : Ns P w s.heap a L es ep t) : es.size = L.length := by
  rw [← Array.length_toList, R.row]; exact List.length_map _
theorem fit_of {n : Nat} (dm : t.dummies = #[]) (h : t.place.size = n) (l : n ≤ t.mask) : t.fits n = true := by
  unfold SetTable.fits SetTable.fill
  rw [dm]
  simp only [Bool.and_eq_true, beq_iff_eq, decide_eq_true_eq]
  exact ⟨h, by simp; omega⟩
theorem Ns.fit (R : Ns P w s.heap a L es ep t) : t.fits es.size = true := by
  have h1 := R.tab.sz
  rw [List.length_map] at h1
  have h2 := R.room
  exact fit_of R.tab.dm (h1.trans R.sz.symm) (by rw [R.sz]; omega)
/-! ### one more member -/
theorem Nk.same {h h' : Heap} {k : NestedKey} {b : Addr} {o : Obj} (hk : Nk P w h k b) (ho : h.get? a = some o) (hd : o.data = .set es ep t) (sb : Heap.SameBut a h h') : Nk P w h' k b :=
  nestedKind_stays.stays (knd := nestedKind P w) (fun c u vs n hc hu => by
    have ne : c ≠ a := fun e => by
      subst e
      rw [ho] at hc; cases hc
      rw [hd] at hu; cases hu
    exact (sb.2 c ne).trans hc) hk
theorem fm_all {α β : Type} {f : α → Option β} {g : α → β} : ∀ {l : List α}, (∀ x ∈ l, f x = some (g x)) → l.filterMap f = l.map g
  | [], _ => rfl
  | x :: l, h => by rw [List.filterMap_cons_some (h x (by simp)), List.map_cons, fm_all fun y hy => h y (List.mem_cons_of_mem _ hy)]
theorem fm_range {α : Type} (xs : List α) : (List.range xs.length).filterMap (fun i => xs[i]?) = xs := by
  have e : (List.range xs.length).map (fun i => xs[i]?) = xs.map some := by
    refine List.ext_getElem? fun i => ?_
    rw [List.getElem?_map, List.getElem?_map]
    rcases Nat.lt_or_ge i xs.length with c | c
    · rw [List.getElem?_range c]
      show some xs[i]? = _
      rw [List.getElem?_eq_getElem c]; rfl
    · rw [List.getElem?_eq_none (by simpa using c), List.getElem?_eq_none c]; rfl
  have := congrArg (List.filterMap id) e
  rw [List.filterMap_map, List.filterMap_map] at this
  simpa [Function.comp_def] using this
theorem laid (row : es.toList = ent w L) {order : Array Nat} (hp : order.toList.Perm (List.range L.length)) :
    ∃ L2, (order.filterMap (es[·]?)).toList = ent w L2 ∧ L2.Perm L ∧ (L2.map fun p => p.2.hash w) = order.toList.map fun i => (es.map (·.1)).getD i 0 := by
  have lt : ∀ i ∈ order.toList, i < L.length := fun i hi => List.mem_range.mp (hp.mem_iff.mp hi)
  have get : ∀ i, es[i]? = (L[i]?).map fun p : Addr × NestedKey => (p.2.hash w, Value.ref p.1) := fun i => by
    rw [← Array.getElem?_toList, row, ent, List.getElem?_map]
  refine ⟨order.toList.filterMap fun i => L[i]?, ?_, ?_, ?_⟩
  · rw [Array.toList_filterMap, ent, List.map_filterMap]
    congr 1
    funext i
    exact get i
  · have := hp.filterMap fun i => L[i]?
    rwa [fm_range] at this
  · rw [List.map_filterMap]
    refine fm_all fun i hi => ?_
    have il := lt i hi
    have e1 : (es.map (·.1))[i]? = some ((L[i]).2.hash w) := by
      rw [Array.getElem?_map, get, List.getElem?_eq_getElem il]; rfl
    rw [List.getElem?_eq_getElem il, Array.getD_eq_getD_getElem?, e1]; rfl
end
end GN
set_option Elab.async false
set_option linter.all false
set_option maxRecDepth 100000
set_option maxHeartbeats 4000000
/-! sets of pairs of a name and a lot -/
namespace GN
open PySem PySem.Spec PySem.W PySem.SeqAt PyProof.Rows L2 GX
/-- a name and a lot -/
abbrev Pr := Str × List Str
def kP (p : Pr) : NestedKey := .tup [.text p.1, .tup (p.2.map .text)]
/-! ### the set's own object -/
/-- what the set's own object tells -/
def Nw (w : World) (h : Heap) (a : Addr) (L : List (Addr × NestedKey)) : Prop := ∃ (es : Array (Int × Value)) (ep : Nat) (t : SetTable), (∃ o, h.get? a = some o ∧ o.ExactSet ∧ o.data = .set es ep t) ∧ es.toList = ent w L ∧ TabOk t (L.map fun p => p.2.hash w) ∧ (L.map (·.2)).Nodup ∧
  (w.params.followText "set-order" = true ∨ t.led = true) ∧ L.length * 5 < t.mask * 3 ∧ L.length < 64
section
variable {P : Program} {w : World} {A : Around} {E : Value → Shared → Prop} {s : Shared} {a : Addr} {L : List (Addr × NestedKey)}
theorem Nw.ns (R : Nw w s.heap a L) (k : ∀ p ∈ L, Nk P w s.heap p.2 p.1) : ∃ es ep t, Ns P w s.heap a L es ep t := by
  obtain ⟨es, ep, t, ob, row, tab, nd, led, room, few⟩ := R
  exact ⟨es, ep, t, ob, row, tab, nd, k, led, room, few⟩
end
end GN
set_option Elab.async false
set_option linter.all false
set_option maxRecDepth 100000
set_option maxHeartbeats 4000000
/-! {(x, lot) for xs in .. for x in ..}, and sorted of it -/
namespace GN
open PySem PySem.Spec PySem.SeqAt PyProof.Rows L2 GX PpSet
def laidK (Lp : List (Addr × Pr)) : List (Addr × NestedKey) := Lp.map fun x => (x.1, kP x.2)
/-- a set of pairs in the layer: who its members are and where they stand -/
def SetPO (w : World) (a : Addr) (Lp : List (Addr × Pr)) : HO := .ext fun h => Nw w h a (laidK Lp)
theorem Nw.at {w : World} {h h' : Heap} {a : Addr} {L : List (Addr × NestedKey)} (R : Nw w h a L) (k : ∀ o, h.get? a = some o → h'.get? a = some o) : Nw w h' a L := by
  obtain ⟨es, ep, t, ⟨o, ho, r⟩, q⟩ := R
  exact ⟨es, ep, t, ⟨o, k o ho, r⟩, q⟩
/-- y joins the set at D, then go on -/
def joinsN (w : World) (K : PySem.W.Frag) (D : Addr) (y : V) (H : Hp) (on : Hp → Prop) : Prop := ∃ (b : Addr) (p : Pr) (Lp : List (Addr × Pr)), y = .ref b ∧ Dp K H (.ref b) (encP p) ∧ H D = some (SetPO w D Lp) ∧ (∀ x ∈ Lp, Dp K H (.ref x.1) (encP x.2)) ∧ Lp.length + 1 < 64 ∧
  ∀ Lp', (p ∈ Lp.map (·.2) → Lp' = Lp) → (p ∉ Lp.map (·.2) → Lp'.Perm ((b, p) :: Lp)) → on (upd H D (SetPO w D Lp'))
end GN
set_option Elab.async false
set_option linter.all false
set_option maxRecDepth 100000
set_option maxHeartbeats 4000000
/-! sorted({(x, lot) for xs in .. for x in ..}) -/
set_option Elab.async false
set_option linter.all false
set_option maxRecDepth 100000
set_option maxHeartbeats 4000000
namespace G
open PySem L2
section
variable {Z : Wd} {M H M' H' : Hp} {B : Bas} {W : List (Nat × Addr)} {σ σ' : St} {δ : List S}
variable {te : TE} {tt : TT} {Ω : OD → List S → Prop} {bs vs vs1 : List Nat} {w : World}
/-- the set at A has just these members -/
def SetHasP (Z : Wd) (w : World) (M H : Hp) (A : Addr) (acc : List GN.Pr) : Prop := ∃ Lp : List (Addr × GN.Pr), H A = some (GN.SetPO w A Lp) ∧ (Lp.map (·.2)).Nodup ∧ (∀ p, p ∈ Lp.map (·.2) ↔ p ∈ acc) ∧ ∀ x ∈ Lp, At Z M (.ref x.1) (pairD x.2)
theorem SetHasP.new {A : Addr} : SetHasP Z w M (upd H A (GN.SetPO w A [])) A [] := ⟨[], upd_same, .nil, by simp, fun x hx => nomatch hx⟩
theorem nodup_leP : ∀ {us l : List GN.Pr}, us.Nodup → (∀ k ∈ us, k ∈ l) → us.length ≤ l.length
  | [], _, _, _ => Nat.zero_le _
  | u :: us, l, n, h => by
    obtain ⟨n1, n2⟩ := List.nodup_cons.mp n
    have hu := h u List.mem_cons_self
    have := nodup_leP (us := us) (l := l.erase u) n2 fun k hk => (List.mem_erase_of_ne (fun (e : k = u) => n1 (by rw [← e]; exact hk))).mpr (h k (List.mem_cons_of_mem _ hk))
    rw [List.length_erase_of_mem hu] at this
    have := List.length_pos_of_mem hu
    rw [List.length_cons]; omega
theorem pair_ref {v : V} {p : GN.Pr} (a : At Z M v (pairD p)) : ∃ b, v = .ref b := by
  unfold pairD at a
  cases a with
  | tup => exact ⟨_, rfl⟩
theorem dp_P {v : V} {p : GN.Pr} (a : At Z M v (pairD p)) (e : Ex M H) : Dp Z.K H v (GX.encP p) := by
  have := At.dp _ _ a e (pair_py p).1
  rw [(pair_py p).2] at this
  exact this
theorem SetHasP.join {A : Addr} {acc few : List GN.Pr} {v : V} {p : GN.Pr} {on : Hp → Prop} (h : SetHasP Z w M H A acc) (ex : Ex M H) (lf : few.length < 63) (hf : ∀ k ∈ acc ++ [p], k ∈ few) (a : At Z M v (pairD p))
    (go : ∀ o, NT o → SetHasP Z w M (upd H A o) A (acc ++ [p]) → on (upd H A o)) : GN.joinsN w Z.K A v H on := by
  obtain ⟨Lp, h1, h2, h3, h4⟩ := h
  obtain ⟨b, rfl⟩ := pair_ref a
  have ml : ∀ q ∈ Lp.map (·.2), q ∈ few := fun q hq => hf q (List.mem_append_left _ ((h3 q).mp hq))
  have len := nodup_leP h2 ml
  rw [List.length_map] at len
  refine ⟨b, p, Lp, rfl, dp_P a ex, h1, fun x hx => dp_P (h4 x hx) ex, by omega, fun Lp' j1 j2 => go _ (fun _ e => nomatch e) ?_⟩
  by_cases c : p ∈ Lp.map (·.2)
  · obtain rfl := j1 c
    refine ⟨Lp', upd_same, h2, fun q => ?_, h4⟩
    rw [h3, List.mem_append, List.mem_singleton]
    exact ⟨.inl, fun z => z.elim id fun z => z ▸ (h3 p).mp c⟩
  · have pm := j2 c
    refine ⟨Lp', upd_same, (pm.map (·.2)).nodup_iff.mpr (by rw [List.map_cons]; exact List.nodup_cons.mpr ⟨c, h2⟩), fun q => ?_, fun x hx => ?_⟩
    · rw [(pm.map (·.2)).mem_iff, List.map_cons, List.mem_cons, h3, List.mem_append, List.mem_singleton]
      exact or_comm
    · rcases List.mem_cons.mp (pm.mem_iff.mp hx) with e | hx
      · rw [e]; exact a
      · exact h4 x hx
theorem SetHasP.mono {A : Addr} {acc : List GN.Pr} (h : SetHasP Z w M H A acc) (e : Ex M M') (k : H' A = H A) : SetHasP Z w M' H' A acc := by
  obtain ⟨Lp, h1, h2, h3, h4⟩ := h
  exact ⟨Lp, k.trans h1, h2, h3, fun x hx => (h4 x hx).mono e⟩
end
end G
set_option Elab.async false
set_option linter.all false
set_option maxRecDepth 100000
set_option maxHeartbeats 4000000
/-! sets of tuples: whether two have the same members -/
set_option Elab.async false
set_option linter.all false
set_option maxRecDepth 100000
set_option maxHeartbeats 8000000
/-! set(xs), xs a list of tuples -/
set_option Elab.async false
set_option linter.all false
set_option maxRecDepth 100000
set_option maxHeartbeats 4000000
/-! sets of texts: whether two have the same members -/
set_option Elab.async false
set_option linter.all false
set_option maxRecDepth 100000
set_option maxHeartbeats 4000000
/-! set(xs) != set(ys), lists of tuples or of texts -/
namespace G
open PySem L2
end G
set_option Elab.async false
set_option linter.all false
set_option maxRecDepth 100000
set_option maxHeartbeats 4000000
/-! zip of two lists -/
namespace G
open PySem L2
end G
namespace G
open PySem L2
end G
set_option Elab.async false
set_option linter.all false
set_option maxRecDepth 100000
set_option maxHeartbeats 4000000
/-! {k: v for x in xs for y in ys} -/
namespace GX
open PySem PySem.Spec PyProof.Rows L2 PpSet
section
variable {prog : Program} {w : World} {A : Around} {R : Result → Shared → Prop} {s : Shared} {kx vx t0 i0 t1 i1 : Expr} {scope : Scope} {pos : Pos} {it acc : Value} {env : Env} {D : Addr}
/-- {kx: vx for t0 in i0 for t1 in i1} -/
abbrev twiceD (kx vx t0 i0 t1 i1 : Expr) (scope : Scope) (pos : Pos) : Expr := .DictComp kx vx [⟨t0, i0, [], 0⟩, ⟨t1, i1, [], 0⟩] scope pos
theorem outerD_turn : compTurn (twiceD kx vx t0 i0 t1 i1 scope pos) 0 it acc env = (do
      standAt i0.pos; match ← pyNext it with
      | none => pure (.done .next)
      | some v => letOwnedTupleGo t0 it v; assign t0 env v; let mut ok := true
                  for c in ([] : List Expr) do if ok then ok ← isTrue c env (eval c env)
                  if ok then let x ← eval i1 env; standAt i1.pos; let x ← foldedSetIterable i1 env x; let _ ← runOwn (.compStart (twiceD kx vx t0 i0 t1 i1 scope pos) 1 (← holding [x] (pyIter x)) acc env) env
                  again (.compLoop (twiceD kx vx t0 i0 t1 i1 scope pos) 0 it acc env)) := by rfl
theorem innerD_turn : compTurn (twiceD kx vx t0 i0 t1 i1 scope pos) 1 it (.ref D) env = (do
      standAt i1.pos; match ← pyNext it with
      | none => pure (.done .next)
      | some v => letOwnedTupleGo t1 it v; assign t1 env v; let mut ok := true
                  for c in ([] : List Expr) do if ok then ok ← isTrue c env (eval c env)
                  if ok then (do let kv ← eval kx env; let vv ← holding [kv] (eval vx env); standAt { kx.pos with endLine := vx.pos.endLine, endCol := vx.pos.endCol }; holding [kv, vv] (dictSet D kv vv))
                  again (.compLoop (twiceD kx vx t0 i0 t1 i1 scope pos) 1 it (.ref D) env)) := by rfl
theorem outerD_loop (plain : ∀ x, foldedSetIterable i1 env x = pure x) (I : Nat → Shared → Prop)
    (turn : ∀ n s, I n s → wpAny (model prog w) A (pyNext it) (fun r s1 => match r with
      | none => R (.ok .next) s1
      | some v => wpAny (model prog w) A (letOwnedTupleGo t0 it v) (fun _ s2 => wpAny (model prog w) A (assign t0 env v) (fun _ s3 => wpAny (model prog w) A (eval i1 env) (fun x s4 => wpAny (model prog w) A (pyIter x) (fun k s5 =>
          codeAny (model prog w) A (.compStart (twiceD kx vx t0 i0 t1 i1 scope pos) 1 k acc env) (fun r s' => (∃ f, r = .ok f) ∧ ∃ m, m < n ∧ I m s') s5) (bad (model prog w) A env R) s4) (bad (model prog w) A env R) s3) (bad (model prog w) A env R) s2) (bad (model prog w) A env R) s1) (bad (model prog w) A env R) s)
    (n : Nat) (h : I n s) : codeAny (model prog w) A (.compLoop (twiceD kx vx t0 i0 t1 i1 scope pos) 0 it acc env) R s := by
  refine codeAny_loop rfl I (fun n s hI => ?_) n h
  show wpAny _ A ((compTurn (twiceD kx vx t0 i0 t1 i1 scope pos) 0 it acc env).onRaise fun x => do noteFrame x env; theTreesLotGoes x) _ _ s
  refine wpAny_noted ?_
  rw [outerD_turn]
  refine wpAny_bind (wpAny_standAt (wpAny_bind (wpAny_mono (turn n s hI) (fun r s1 h1 => ?_) fun _ _ z => z)))
  cases r with
  | none => exact wpAny_pure h1
  | some v =>
    refine wpAny_bind (wpAny_mono h1 (fun _ s2 h2 => wpAny_bind (wpAny_mono h2 (fun _ s3 h3 => ?_) fun _ _ z => z)) fun _ _ z => z)
    refine wpAny_bind (wpAny_pure ?_)
    refine wpAny_bind (wpAny_mono h3 (fun x s4 h4 => ?_) fun _ _ z => z)
    refine wpAny_bind (wpAny_standAt (wpAny_bind (wpAny_of_eq (plain x) (wpAny_bind (wpAny_holding (wpAny_mono h4 (fun k s5 h5 => ?_) fun _ _ z => z))))))
    refine wpAny_bind (wpAny_runOwn ?_)
    rw [Around.mark_none]
    refine codeAny_mono h5 fun r s6 hr => ?_
    obtain ⟨⟨f, rfl⟩, hr⟩ := hr
    first
    | exact wpAny_pure ⟨rfl, hr⟩
    | exact wpAny_bind (wpAny_pure (wpAny_pure ⟨rfl, hr⟩))
theorem innerD_loop (I : Nat → Shared → Prop)
    (turn : ∀ n s, I n s → wpAny (model prog w) A (pyNext it) (fun r s1 => match r with
      | none => R (.ok .next) s1
      | some v => wpAny (model prog w) A (letOwnedTupleGo t1 it v) (fun _ s2 => wpAny (model prog w) A (assign t1 env v) (fun _ s3 => wpAny (model prog w) A (eval kx env) (fun x s4 => wpAny (model prog w) A (eval vx env) (fun z s4' =>
          wpAny (model prog w) A (dictSet D x z) (fun _ s5 => ∃ m, m < n ∧ I m s5) (bad (model prog w) A env R) s4') (bad (model prog w) A env R) s4) (bad (model prog w) A env R) s3) (bad (model prog w) A env R) s2) (bad (model prog w) A env R) s1) (bad (model prog w) A env R) s)
    (n : Nat) (h : I n s) : codeAny (model prog w) A (.compLoop (twiceD kx vx t0 i0 t1 i1 scope pos) 1 it (.ref D) env) R s := by
  refine codeAny_loop rfl I (fun n s hI => ?_) n h
  show wpAny _ A ((compTurn (twiceD kx vx t0 i0 t1 i1 scope pos) 1 it (.ref D) env).onRaise fun x => do noteFrame x env; theTreesLotGoes x) _ _ s
  refine wpAny_noted ?_
  rw [innerD_turn]
  refine wpAny_bind (wpAny_standAt (wpAny_bind (wpAny_mono (turn n s hI) (fun r s1 h1 => ?_) fun _ _ z => z)))
  cases r with
  | none => exact wpAny_pure h1
  | some v =>
    refine wpAny_bind (wpAny_mono h1 (fun _ s2 h2 => wpAny_bind (wpAny_mono h2 (fun _ s3 h3 => ?_) fun _ _ z => z)) fun _ _ z => z)
    refine wpAny_bind (wpAny_pure ?_)
    exact wpAny_bind (wpAny_bind (wpAny_mono h3 (fun kv s4 h4 => wpAny_bind (wpAny_holding (wpAny_mono h4 (fun vv s5 h5 => wpAny_bind (wpAny_standAt (wpAny_holding (wpAny_mono h5 (fun _ s6 h6 => wpAny_pure ⟨rfl, h6⟩) fun _ _ z => z)))) fun _ _ z => z))) fun _ _ z => z))
theorem innerD_start (h0 : codeAny (model prog w) A (.compLoop (twiceD kx vx t0 i0 t1 i1 scope pos) 1 it acc env) R s)
    (h : wpAny (model prog w) A (pyIter it) (fun k s' => codeAny (model prog w) A (.compLoop (twiceD kx vx t0 i0 t1 i1 scope pos) 1 k acc env) R s') (bad (model prog w) A env R) s) : codeAny (model prog w) A (.compStart (twiceD kx vx t0 i0 t1 i1 scope pos) 1 it acc env) R s := by
  refine codeAny_of_tree ?_
  show wpAny _ _ ((compStart (twiceD kx vx t0 i0 t1 i1 scope pos) 1 it acc env).onRaise fun x => do noteFrame x env; standAt theWindowsPlace) _ _ s
  refine wpAny_notedAt ?_
  unfold compStart
  refine wpAny_bind (wpAny_askSetting (wpAny_ite ?_))
  split
  · first
    | exact wpAny_bind (wpAny_pure (wpAny_pure ⟨rfl, h0⟩))
    | exact wpAny_pure ⟨rfl, h0⟩
  · refine wpAny_bind (wpAny_rule ?_)
    first
    | exact wpAny_bind (wpAny_standAt (wpAny_bind (wpAny_mono h (fun k s' z => wpAny_pure ⟨rfl, z⟩) fun _ _ z => z)))
    | (show wpAny _ _ (standAt i1.pos >>= _) _ _ s; exact wpAny_bind (wpAny_standAt (wpAny_bind (wpAny_mono h (fun k s' z => wpAny_pure ⟨rfl, z⟩) fun _ _ z => z))))
end
/-- z for the key y in the dict at D, then go on -/
def putsD (D : Addr) (y z : V) (H : Hp) (on : Hp → Prop) : Prop := ∃ (kvs : List (Key × V)) (k : Key), y = kV k ∧ H D = some (.dK kvs) ∧ kvs.length < sizeLine ∧ on (upd H D (.dK (putK kvs k z)))
def jobD2 (g : TG) (wi1 : TI) (g1 : TG) (tk tv : TE) (vs vs1 : List Nat) : SetJob := fun J D H0 σ0 Qd => ∃ (n : Nat) (Pv : Nat → Hp → Prop), walks J n Pv H0 Qd fun i x H1 => g x σ0 H1 fun σ2 H2 => wipe σ2 vs = σ0 ∧ wi1 σ2 H2 fun J1 H3 =>
  ∃ (n1 : Nat) (Pw : Nat → Hp → Prop), walks J1 n1 Pw H3 (Pv (i + 1)) fun j x1 H4 => g1 x1 (wipe σ2 vs1) H4 fun σ3 H5 => wipe σ3 vs1 = wipe σ2 vs1 ∧ tk σ3 H5 fun y H6 => tv σ3 H6 fun z H7 => putsD D y z H7 (Pw (j + 1))
def tDcJ (wi : TI) (vs : List Nat) (job : SetJob) : TE := fun σ H Q => wi σ H fun J H1 => ∀ D, H1 D = none → job J D (upd H1 D (.dK [])) (wipe σ vs) fun H2 => Q (.ref D) H2
section
variable {X : Cx} {kx vx t0 i0 t1 i1 : Expr} {scope : Scope} {pos : Pos} {g g1 : TG} {wi1 : TI} {tk tv : TE} {vs vs1 : List Nat}
theorem doesD2 (pg : ∀ (s : Shared) (H : Hp) (C : Addr) (cl : List (PySem.Str × Addr)) (fp : List Addr), PG (X.blk s H scope (compEnvC scope cl C X.env) fp) t0 g) (pi1 : ∀ (s : Shared) (H : Hp) (C : Addr) (cl : List (PySem.Str × Addr)) (fp : List Addr), PI (X.blk s H scope (compEnvC scope cl C X.env) fp) t1 i1 wi1)
    (pg1 : ∀ (s : Shared) (H : Hp) (C : Addr) (cl : List (PySem.Str × Addr)) (fp : List Addr), PG (X.blk s H scope (compEnvC scope cl C X.env) fp) t1 g1) (pk : ∀ (s : Shared) (H : Hp) (C : Addr) (cl : List (PySem.Str × Addr)) (fp : List Addr), PE (X.blk s H scope (compEnvC scope cl C X.env) fp) kx tk) (pv : ∀ (s : Shared) (H : Hp) (C : Addr) (cl : List (PySem.Str × Addr)) (fp : List Addr), PE (X.blk s H scope (compEnvC scope cl C X.env) fp) vx tv)
    (sub : ∀ i ∈ vs1, i ∈ vs) (plain : ∀ env x, foldedSetIterable i1 env x = pure x := by intro _ _; rfl) : Does X t0 (twiceD kx vx t0 i0 t1 i1 scope pos) scope (jobD2 g wi1 g1 tk tv vs vs1) := by
  rintro s3 H3 C cl fp it D J tn s4 σ4 H4 Qd post calm T here I4 t4 none4 ⟨n, Pv, p0, turn, stop⟩ fin
  refine outerD_loop (plain _) (fun k s' => ∃ i H', k = n - i ∧ i ≤ n ∧ Inv (X.blk s3 H3 scope (compEnvC scope cl C X.env) fp) [] σ4 H' s' ∧ tn i s'.heap ∧ (∀ b ∈ fp, H' b = none) ∧ Pv i H') ?_ n ⟨0, H4, rfl, Nat.zero_le _, I4, t4, none4, p0⟩
  rintro k s5 ⟨i, H5, rfl, le, I5, t5, none5, p5⟩
  rcases Nat.eq_or_lt_of_le le with rfl | lt
  · obtain ⟨st, qd⟩ := stop H5 p5
    exact thnF (T.done (X.blk s3 H3 scope (compEnvC scope cl C X.env) fp) rfl rfl rfl calm i [] s5 _ H5 (fun _ _ => False) I5 (here _ _ _ I5 none5) t5 st) fun r s6 ⟨hr, I6⟩ => by subst hr; exact fin _ _ I6 qd
  · obtain ⟨go, step⟩ := turn i H5 lt p5
    refine thnF (T.item (X.blk s3 H3 scope (compEnvC scope cl C X.env) fp) rfl rfl rfl calm i [] s5 _ H5 (fun _ _ => False) I5 (here _ _ _ I5 none5) t5 go) fun r s6 ⟨u, hr, came⟩ => ?_
    subst hr
    refine thnF came fun _ s7 ⟨x, H7, I7, r7, y7, t7, none7⟩ => ?_
    refine thnF ((pg s3 H3 C cl fp).run _ s7 _ H7 x u _ (I7.pinned (here _ _ _ I7 none7) (T.obj _ _ t7)) r7 (step x H7 y7)) fun _ s8 ⟨σ8, H8, I8, same, q8⟩ => ?_
    refine thnF ((pi1 s3 H3 C cl fp).run _ s8 σ8 H8 _ I8 q8) fun _ s9 q9 => thnF q9 fun _ s10 came1 => ?_
    obtain ⟨it1, fp1, tn1, J1, H10, rfl, I10, T1, t10, clear1, n1, Pw, w0, turn1, stop1⟩ := came1
    have here1 : ∀ {H' : Hp}, (∀ b ∈ fp1, H' b = none) → ∀ b ∈ fp1, FpOk (X.blk s3 H3 scope (compEnvC scope cl C X.env) fp) ([] ++ pinsAt fp s7.heap) H' b := fun z b hb => ⟨z b hb, (clear1 b hb).2⟩
    have loop1 : codeAny (model X.prog X.w) X.A (.compLoop (twiceD kx vx t0 i0 t1 i1 scope pos) 1 (.ref it1) (.ref D) (compEnvC scope cl C X.env))
        (fun r s' => (∃ f, r = .ok f) ∧ ∃ m, m < n - i ∧ ∃ i' H', m = n - i' ∧ i' ≤ n ∧ Inv (X.blk s3 H3 scope (compEnvC scope cl C X.env) fp) [] σ4 H' s' ∧ tn i' s'.heap ∧ (∀ b ∈ fp, H' b = none) ∧ Pv i' H') s10 := by
      refine innerD_loop (fun k s' => ∃ j H', k = n1 - j ∧ j ≤ n1 ∧ Inv (X.blk s3 H3 scope (compEnvC scope cl C X.env) fp) ([] ++ pinsAt fp s7.heap) (wipe σ8 vs1) H' s' ∧ tn1 j s'.heap ∧ (∀ b ∈ fp1, H' b = none) ∧ Pw j H') ?_ n1 ⟨0, H10, rfl, Nat.zero_le _, I10.weak (wipe_length _ _) fun j v e => (wipe_some e).1, t10, fun b hb => (clear1 b hb).1, w0⟩
      rintro k s12 ⟨j, H12, rfl, le1, I12, t12, none12, p12⟩
      rcases Nat.eq_or_lt_of_le le1 with rfl | lt1
      · obtain ⟨st1, p'⟩ := stop1 H12 p12
        refine thnF (T1.done (X.blk s3 H3 scope (compEnvC scope cl C X.env) fp) rfl rfl rfl calm j _ s12 (wipe σ8 vs1) H12 (fun _ _ => False) I12 (here1 none12) t12 st1) fun r s13 ⟨hr, I13⟩ => ?_
        subst hr
        have stay : ∀ b ∈ fp, ∀ o, s7.heap.get? b = some o → s13.heap.get? b = some o ∧ H12 b = none := fun b hb o e => let z := I13.pin (b, o) (List.mem_append_right _ (List.mem_append_right _ (mem_pinsAt hb e))); ⟨z.1, z.2.1⟩
        refine ⟨⟨_, rfl⟩, n - (i + 1), by omega, i + 1, H12, rfl, lt, (I13.unpinned (pins := [])).weak (by rw [← same, wipe_length, wipe_length]) (fun j v e => ?_), T.keep _ _ _ t7 fun b hb o e => (stay b hb o e).1, fun b hb => ?_, p'⟩
        · rw [← same] at e
          obtain ⟨e1, e2⟩ := wipe_some e
          rw [wipe_out fun z => e2 (sub j z)]
          exact e1
        · obtain ⟨o, e, _⟩ := T.obj _ _ t7 b hb
          exact (stay b hb o e).2
      · obtain ⟨go1, step1⟩ := turn1 j H12 lt1 p12
        refine thnF (T1.item (X.blk s3 H3 scope (compEnvC scope cl C X.env) fp) rfl rfl rfl calm j _ s12 (wipe σ8 vs1) H12 (fun _ _ => False) I12 (here1 none12) t12 go1) fun r s13 ⟨u1, hr, came2⟩ => ?_
        subst hr
        refine thnF came2 fun _ s14 ⟨x1, H14, I14, r14, y14, t14, none14⟩ => ?_
        refine thnF ((pg1 s3 H3 C cl fp).run _ s14 (wipe σ8 vs1) H14 x1 u1 _ (I14.pinned (here1 none14) (T1.obj _ _ t14)) r14 (step1 x1 H14 y14)) fun _ s15 ⟨σ15, H15, I15, same1, q15⟩ => ?_
        refine thnF ((pk s3 H3 C cl fp).run _ s15 σ15 H15 _ I15 q15) fun z s16 ⟨y, H16, I16, r16, q16⟩ => ?_
        refine thnF ((pv s3 H3 C cl fp).run _ s16 σ15 H16 _ I16 q16) fun z2 s16' ⟨y2, H16', I16', r16', kvs, k, ek, hD, room, nx⟩ => ?_
        subst ek
        refine d_dictSet (X := X.blk s3 H3 scope (compEnvC scope cl C X.env) fp) I16' hD room r16 r16' fun s17 I17 => ?_
        have p17 := nx
        have stay1 : ∀ b ∈ fp1, ∀ o, s14.heap.get? b = some o → s17.heap.get? b = some o ∧ upd H16' D (.dK (putK kvs k y2)) b = none := fun b hb o e => let z := I17.pin (b, o) (List.mem_append_right _ (List.mem_append_right _ (mem_pinsAt hb e))); ⟨z.1, z.2.1⟩
        refine ⟨n1 - (j + 1), by omega, j + 1, _, rfl, lt1, I17.unpinned.weak (by rw [← same1, wipe_length]) (fun j v e => by rw [← same1] at e; exact (wipe_some e).1), T1.keep _ _ _ t14 fun b hb o e => (stay1 b hb o e).1, fun b hb => ?_, p17⟩
        obtain ⟨o, e, _⟩ := T1.obj _ _ t14 b hb
        exact (stay1 b hb o e).2
    exact innerD_start loop1 (T1.self X.A 0 _ _ _ t10 loop1)
end
end GX
set_option Elab.async false
set_option linter.all false
set_option maxRecDepth 100000
set_option maxHeartbeats 4000000
namespace G
open PySem L2
section
variable {Z : Wd} {M H M' H' : Hp} {B : Bas} {W : List (Nat × Addr)} {σ σ' : St} {δ : List S}
variable {te tk tv : TE} {tt : TT} {Ω : OD → List S → Prop} {bs vs vs1 : List Nat}
/-- in its place, or at the end -/
def dputD (kvs : List (Key × D)) (k : Key) (d : D) : List (Key × D) := if (kvs.any fun kv => decide (kv.1 = k)) = true then kvs.map (fun kv => if kv.1 = k then (kv.1, d) else kv) else kvs ++ [(k, d)]
theorem dputD_len (kvs : List (Key × D)) (k : Key) (d : D) : (dputD kvs k d).length ≤ kvs.length + 1 := by
  unfold dputD
  split
  · rw [List.length_map]; omega
  · rw [List.length_append, List.length_singleton]; omega
theorem dputD_at {k : Key} {v : V} {d : D} (av : At Z M v d) {kvs : List (Key × D)} {us : List (Key × V)} (h : us.map (·.1) = kvs.map (·.1)) (a : AtL Z M (us.map (·.2)) (kvs.map (·.2))) : (putK us k v).map (·.1) = (dputD kvs k d).map (·.1) ∧ AtL Z M ((putK us k v).map (·.2)) ((dputD kvs k d).map (·.2)) := by
  have any : (us.any fun kv => decide (kv.1 = k)) = kvs.any fun kv => decide (kv.1 = k) := by
    have h1 : (us.any fun kv => decide (kv.1 = k)) = (us.map (·.1)).any fun x => decide (x = k) := by rw [List.any_map]; rfl
    have h2 : (kvs.any fun kv => decide (kv.1 = k)) = (kvs.map (·.1)).any fun x => decide (x = k) := by rw [List.any_map]; rfl
    rw [h1, h2, h]
  unfold putK dputD
  rw [any]
  split
  · rename_i hh; clear any hh
    induction us generalizing kvs with
    | nil => cases kvs with
      | nil => exact ⟨rfl, .nil⟩
      | cons x y => cases h
    | cons u us ih => cases kvs with
      | nil => cases h
      | cons x kvs =>
        obtain ⟨k1, v1⟩ := u
        obtain ⟨k2, d2⟩ := x
        obtain ⟨e, h'⟩ := List.cons.inj h
        obtain rfl : k1 = k2 := e
        obtain ⟨v0, ws, e2, a1, a2⟩ := AtL.inv (a : AtL Z M (v1 :: us.map (·.2)) (d2 :: kvs.map (·.2)))
        obtain ⟨rfl, rfl⟩ := List.cons.inj e2
        obtain ⟨i1, i2⟩ := ih h' a2
        by_cases c : k1 = k
        · simp only [List.map_cons, if_pos c]
          exact ⟨by rw [i1], .cons av i2⟩
        · simp only [List.map_cons, if_neg c]
          exact ⟨by rw [i1], .cons a1 i2⟩
  · refine ⟨by rw [List.map_append, List.map_append, h]; rfl, ?_⟩
    rw [List.map_append, List.map_append]
    exact AtL.app a (.one av)
/-- {k: v for x in xs for y in ys} -/
theorem xo_dc2 {g g1 : TG} {wi wi1 : TI} (h : XI Z wi δ fun xs δ0 => (∀ v ∈ vs, δ0[v]? = some .no) ∧ xs.length ≤ 1000 ∧ ∃ J : Nat → List (Key × D) → List S → Prop, J 0 [] δ0 ∧
      (∀ i d acc δ1 bs, (∀ v ∈ vs, v ∉ bs) → xs[i]? = some d → J i acc δ1 → XG Z vs bs g d δ1 fun δ2 => XI Z wi1 δ2 fun zs δ4 => zs.length ≤ 100 ∧ (∀ v ∈ vs1, δ4[v]? = some .no) ∧ ∃ Jn : Nat → List (Key × D) → List S → Prop, Jn 0 acc δ4 ∧
        (∀ j e acc δ5 bs, (∀ v ∈ vs1, v ∉ bs) → zs[j]? = some e → Jn j acc δ5 → XG Z vs1 bs g1 e δ5 fun δ6 => XE Z tk δ6 fun y δ7 => XE Z tv δ7 fun z δ8 => ∃ k, y = keyD k ∧ Jn (j + 1) (dputD acc k z) (wipeS δ8 vs1)) ∧
        ∀ acc δ5, Jn zs.length acc δ5 → J (i + 1) acc (wipeS δ5 vs)) ∧
      ∀ acc δ1, J xs.length acc δ1 → Ω (.dic acc) δ1) :
    XO Z (GX.tDcJ wi vs (GX.jobD2 g wi1 g1 tk tv vs vs1)) δ Ω := XO.mk fun B W M H σ Q I q =>
  h B W M H σ _ I fun M' H1 δ' J xs f e1 I1 wd A hA => by
    obtain ⟨hno, hxs, Jv, j0, js, jn⟩ := f
    have hAB := I1.fresh hA
    have hAm := I1.ex.free hA
    refine ⟨xs.length, fun i H => i ≤ xs.length → ∃ M'' δ'' acc us, Ex M' M'' ∧ I3 Z B W M'' H σ δ'' ∧ Jv i acc δ'' ∧ H A = some (.dK us) ∧ us.map (·.1) = acc.map (·.1) ∧ AtL Z M'' (us.map (·.2)) (acc.map (·.2)) ∧ M'' A = none ∧ (∀ j, ¬ Own σ δ'' j A) ∧ (∀ v ∈ vs, δ''[v]? = some .no) ∧ acc.length ≤ 100 * i,
      fun _ => ⟨M', δ', [], [], Ex.rfl', I1.other hAB hAm (I1.newOwn hA), j0, upd_same, rfl, .nil, hAm, I1.newOwn hA, hno, Nat.le_refl _⟩, fun i Ha hi p => ?_, fun Ha p => ?_⟩
    · obtain ⟨M'', δ'', acc, us, a, Ia, ja, hA1, ks, al, hAm1, hAo, hno1, hacc⟩ := p (Nat.le_of_lt hi)
      refine ⟨wd.go i Ha hi (a.tr Ia.ex), fun x Hb yl => ?_⟩
      obtain ⟨d, M2, hd, e2, I2, at2, k2, m2⟩ := YD.use (wd.walk.yields i Ha x Hb hi (a.tr Ia.ex) yl) a Ia
      obtain ⟨W2, hbs, Iw, fin⟩ := I2.turnO (vs := vs) (k2 _ _ hA1) (m2 _ _ hA1 hAm1) hAo hno1
      refine js i d acc δ'' _ hbs hd ja _ _ M2 Hb (wipe σ vs) x _ rfl Iw at2 fun M3 H3 σ3 δ3 h3 e3 J3 k3 l3 => ⟨(wipe_eq k3 l3).trans (wipe_eq (fun j hj => wipe_out hj) (wipe_length _ _)), ?_⟩
      refine h3 _ _ M3 H3 σ3 _ J3 fun M5 H5 δ5 J1 zs h5 e5 J5 wd1 => ?_
      obtain ⟨hzs, hno5, Jn, n0, ns, nn⟩ := h5
      have ex5 : Ex M2 M5 := e3.tr e5
      obtain ⟨⟨_, y2, y3, _, _⟩, yI, yO, hWv⟩ := fin M5 H5 σ3 δ5 ex5 k3 l3 J5
      refine ⟨zs.length, fun j H => j ≤ zs.length → ∃ M6 δ6 acc6 us6, Ex M5 M6 ∧ I3 Z B W M6 H σ3 δ6 ∧ Jn j acc6 δ6 ∧ H A = some (.dK us6) ∧ us6.map (·.1) = acc6.map (·.1) ∧ AtL Z M6 (us6.map (·.2)) (acc6.map (·.2)) ∧ M6 A = none ∧ (∀ j, ¬ Own σ3 δ6 j A) ∧ (∀ v ∈ vs1, δ6[v]? = some .no) ∧ acc6.length ≤ 100 * i + j ∧ δ6.length = δ''.length,
        fun _ => ⟨M5, δ5, acc, us, Ex.rfl', yI, n0, y2, ks, al.mono (e2.tr ex5), y3, yO, hno5, by omega, by rw [← yI.len, l3, wipe_length, I2.len]⟩, fun j Hc hj p => ?_, fun Hc p => ?_⟩
      · obtain ⟨M6, δ6, acc6, us6, a6, I6, j6, hA6, ks6, al6, hAm6, hAo6, hno6, hacc6, hlen6⟩ := p (Nat.le_of_lt hj)
        refine ⟨wd1.go j Hc hj (a6.tr I6.ex), fun x1 Hd yl1 => ?_⟩
        obtain ⟨d7, M7, hd7, e7, I7, at7, k7, m7⟩ := YD.use (wd1.walk.yields j Hc x1 Hd hj (a6.tr I6.ex) yl1) a6 I6
        obtain ⟨W7, hbs7, Iw7, fin7⟩ := I7.turnO (vs := vs1) (k7 _ _ hA6) (m7 _ _ hA6 hAm6) hAo6 hno6
        refine ns j d7 acc6 δ6 _ hbs7 hd7 j6 _ _ M7 Hd (wipe σ3 vs1) x1 _ rfl Iw7 at7 fun M8 H8 σ8 δ8 h8 e8 J8 k8 l8 => ⟨(wipe_eq k8 l8).trans (wipe_eq (fun j hj => wipe_out hj) (wipe_length _ _)), ?_⟩
        refine XE.run h8 J8 fun M9 H9 δ9 y' d' h9 e9 J9 at9 => XE.run h9 J9 fun M0 H0 δ0 z' d0 h0 e0 J0 at0 => ?_
        obtain ⟨k, rfl, h0⟩ := h0
        cases key_at at9
        have ex0 : Ex M7 M0 := e8.tr (e9.tr e0)
        obtain ⟨⟨z1, z2, z3, z4, z5⟩, _⟩ := fin7 M0 H0 σ8 δ0 ex0 k8 l8 J0
        have lu : us6.length = acc6.length := by simpa using congrArg List.length ks6
        obtain ⟨p1, p2⟩ := dputD_at (k := k) at0 ks6 (al6.mono (e7.tr ex0))
        have dl := dputD_len acc6 k d0
        exact ⟨us6, k, rfl, z2, Nat.lt_of_lt_of_le (show us6.length < 1000001 by omega) (by decide), fun _ => ⟨M0, _, _, _, a6.tr (e7.tr ex0), z1.other hAB z3 z4, h0, upd_same, p1, p2, z3, z4, z5, by omega, by rw [← z1.len, I7.len, hlen6]⟩⟩
      · obtain ⟨M6, δ6, acc6, us6, a6, I6, j6, hA6, ks6, al6, hAm6, hAo6, hno6, hacc6, hlen6⟩ := p (Nat.le_refl _)
        have hvlen : ∀ v ∈ vs, v < δ6.length := fun v hv => by rw [hlen6]; exact (List.getElem?_eq_some_iff.mp (hno1 v hv)).1
        have Jb : I3 Z B W M6 Hc σ (wipeS δ6 vs) := I6.swap (vs := vs) (fun j hj => by rw [k3 j hj, wipe_out hj]) (by rw [l3, wipe_length]) (fun j hj => wipeS_out hj) (fun j hj hlt => wipeS_in (by rw [wipeS_len] at hlt; exact hlt) hj) (wipeS_len _) fun i p hv => hWv i p hv
        refine ⟨wd1.stop Hc (a6.tr I6.ex), fun _ => ⟨M6, wipeS δ6 vs, acc6, us6, a.tr (e2.tr (ex5.tr a6)), Jb, nn _ _ j6, hA6, ks6, al6, hAm6, fun j o => ?_, fun v hv => wipeS_in (hvlen v hv) hv, by omega⟩⟩
        have hj' : j ∉ vs := fun hv => Own.not (wipeS_in (hvlen j hv) hv) hol_no o
        exact hAo6 j (o.same (by rw [k3 j hj', wipe_out hj']) (wipeS_out hj').symm)
    · obtain ⟨M'', δ'', acc, us, a, Ia, ja, hA1, ks, al, hAm1, hAo, hno1, _⟩ := p (Nat.le_refl _)
      exact ⟨wd.stop Ha (a.tr Ia.ex), q M'' Ha δ'' A _ (.dic acc) (jn _ _ ja) (e1.tr a) Ia hA1 ⟨ks, al⟩ hAm1 hAB hAo⟩
end
end G
set_option Elab.async false
set_option linter.all false
set_option maxRecDepth 100000
set_option maxHeartbeats 4000000
/-! in, of a list or a tuple of data -/
namespace GX
open PySem PySem.Spec PyProof.Rows L2
section
variable {X : Cx}
def rInSeq (K : PySem.W.Frag) : R2 := fun x y H Q => rInD K x y H Q ∨ rInTup K false x y H Q
theorem op_inSeq (room : X.A.units + 65 < cLine) : OpR X (compareOp .In) (rInSeq X.K) := fun pins s σ H x y v u Q I rx ry h => by
  rcases h with h | h
  · exact op_inD room pins s σ H x y v u Q I rx ry h
  · exact op_inTup room pins s σ H x y v u Q I rx ry h
end
end GX
namespace G
open PySem L2
section
variable {Z : Wd} {δ : List S} {ta tb : TE} {Φ : D → List S → Prop}
theorem xe_inSeq (h : XE Z ta δ fun a δ1 => XE Z tb δ1 fun b δ2 => ∃ xs, (b = .lst xs ∨ b = .tup xs) ∧ pla a = true ∧ plaL xs = true ∧ SeqAt.shaped (py a) = true ∧ SeqAt.shaped (py b) = true ∧ Φ (.bl ((pyL xs).any fun z => PyData.eqv z (py a))) δ2) : XE Z (tOp (GX.rInSeq Z.K) ta tb) δ Φ := XE.mk fun B W M H σ Q I q =>
  h.run I fun M1 H1 δ1 x a h1 e1 I1 at1 => XE.run h1 I1 fun M2 H2 δ2 y b h2 e2 I2 at2 => by
    obtain ⟨xs, hb, pa, pb, sa, sb, f⟩ := h2
    rcases hb with rfl | rfl
    · exact .inl ⟨_, _, At.dp a x (at1.mono e2) I2.ex pa, At.dp _ y at2 I2.ex pb, sa, sb, q M2 H2 δ2 _ _ f (e1.tr e2) I2 .bl⟩
    · exact .inr ⟨_, _, At.dp a x (at1.mono e2) I2.ex pa, At.dp _ y at2 I2.ex pb, sa, sb, q M2 H2 δ2 _ _ f (e1.tr e2) I2 .bl⟩
end
end G
set_option Elab.async false
set_option linter.all false
set_option maxRecDepth 100000
set_option maxHeartbeats 4000000
/-! name = {k: v for ..}, locked at once -/
namespace GX
open PySem PySem.Spec PyProof.Rows L2 PpSet
section
variable {X : Cx} {kx vx t0 i0 t1 i1 : Expr} {scope : Scope} {pos : Pos} {g g1 : TG} {wi1 : TI} {tk tv : TE} {vs vs1 : List Nat}
theorem dcJ_core {pins : List (Addr × Obj)} {s : Shared} {σ : L2.St} {H : Hp} {Q : VK} {pos' : Pos} {use : Option (Value → Sem Unit)} {Qf : Value → Shared → Prop} {tg iter : Expr} {ifs : List Expr} {more : List Comprehension} {own : List (PySem.Str × Nat)} {wi : TI} {job : SetJob} (calm : X.calm = true) (nd : X.N.Nodup) (I : Inv X pins σ H s) (src : PI X tg iter wi) (blk : BlkOk X.N X.env.scope scope own)
    (does : Does X tg (.DictComp kx vx (⟨tg, iter, ifs, 0⟩ :: more) scope pos) scope job) (plain : ∀ x, foldedSetIterable iter X.env x = pure x) (want : tDcJ wi (own.map (·.2)) job σ H Q)
    (hRR : ∀ D C s' m H', Inv X pins σ H' s' → Q (.ref D) H' → s'.heap.Ns C m → FpOk X pins H' C → compPost (model X.prog X.w) X.A X.xe use Qf (.ref D) C (.ok .next) s') :
    wpAny (model X.prog X.w) X.A (comprehension (.DictComp kx vx (⟨tg, iter, ifs, 0⟩ :: more) scope pos) scope X.env pos' newDict false (eval iter X.env) use) Qf X.xe s := by
  have frees : ∀ y ∈ scope.names, y.2 = .free → ∃ c, X.env.cells.lookup y.1 = some c := fun y hy e => (blk.free y hy e).elim (fun k => I.ok.has _ (.inl k)) fun k => I.ok.has _ (.inr k)
  refine wpAny_comprehension_free (use := use) rfl plain (closure_ok frees) blk.kind (fun y hy e => by rw [blk.uniq y hy, e]) (thn (src.run pins s σ H _ I want) fun _ _ first => thn first fun _ s2 came => ?_)
  obtain ⟨it, fp, tn, J, H2, rfl, I2, T, t0, clear, job⟩ := came
  refine wpAny_newObj_type (newEnv_comp ?_)
  have dn : H2 s2.heap.objs.size = none := I2.hok.fresh (Nat.le_refl _)
  have job := job _ dn
  have I3 := I2.laid (h' := s2.heap.push { cls := .type "dict", data := .dict #[] }) (t' := s2.toks) (fun _ _ e => Heap.get?_push_of_some _ e) (Nat.le_refl _) (dk_empty s2.heap I2.big)
  have old : ∀ b ∈ fp, b < s2.heap.objs.size := fun b hb => by obtain ⟨o, e, _⟩ := T.obj _ _ t0 b hb; exact Heap.lt_size e
  have clear3 : ∀ b ∈ fp, FpOk X pins (upd H2 s2.heap.objs.size (.dK [])) b ∧ b < (s2.heap.push { cls := .type "dict", data := .dict #[] }).objs.size := fun b hb =>
    ⟨⟨by rw [upd_ne (Nat.ne_of_lt (old b hb))]; exact (clear b hb).1, (clear b hb).2⟩, by rw [Heap.size_push]; exact Nat.lt_succ_of_lt (old b hb)⟩
  have t3 : tn 0 (s2.heap.push { cls := .type "dict", data := .dict #[] }) := T.keep _ _ _ t0 fun b _ o e => Heap.get?_push_of_some _ e
  have I4 := block_start I3 blk nd clear3
  have t4 : tn 0 (pushCells ((s2.heap.push { cls := .type "dict", data := .dict #[] }).push { cls := .type "dict", data := .dict #[] }) scope.names) := T.keep _ _ _ t3 fun b _ o e => pushCells_keeps _ _ _ _ (Heap.get?_push_of_some _ e)
  refine codeAny_compStart_dict ?run (T.self X.A 0 _ _ _ t4 ?run)
  refine does _ _ _ _ fp it _ J tn _ _ _ _ _ calm T blk_here I4 t4 (fun b hb => (clear3 b hb).1.1) job fun s' H' J' done => ?_
  -- the block ends
  have I7 : Inv X pins σ H' s' := I3.call' (ch := fp) J'.os J'.base J'.hok J'.bare fun b hb => ⟨(clear3 b hb).1.2.2.2.1, (clear3 b hb).1.2.1, (clear3 b hb).1.2.2.2.2.1, (clear3 b hb).1.2.2.2.2.2⟩
  obtain ⟨m, ns, _⟩ := J'.loc
  have gap : H' (s2.heap.push { cls := .type "dict", data := .dict #[] }).objs.size = none := J'.free
  exact hRR _ _ s' m H' I7 done ns (I3.fpOk (Nat.le_refl _) gap)
theorem swD_true {gs : List Comprehension} {py : Pos} {y : PySem.Str} {l : Nat} {env : Env} (hk : env.scope.kind = .function) (hy : env.scope.names.lookup y = some .local) (hl : (py.line == pos.line) = true)
    (ha : (scope.names.any fun (n, k) => n == y && (k == .local || k == .cell)) = false) : swapsWith (.DictComp kx vx gs scope pos) (some (.Name y py)) l env = pure true := by
  have ky : env.kindOf y = some .local := hy
  have hb : env.blockKind = .function := by unfold Env.blockKind; rw [hk]; rfl
  unfold swapsWith
  simp only [hb, ky, ha, Expr.pos, hl]
  rfl
/-- what follows once the dict is there -/
theorem stored_lk {pins : List (Addr × Obj)} {s' : Shared} {σ : L2.St} {H' : Hp} {D : Ends} {i : Nat} {y : PySem.Str} {py : Pos} {L C : Addr} {m : PySem.Str → Option Value} (hN : X.N.Nodup) (hy : X.N[i]? = some y) (hyl : X.env.scope.names.lookup y = some .local)
    (I' : Inv X pins σ H' s') (q : ∃ d kvs, V.ref L = .ref d ∧ H' d = some (.dK kvs) ∧ ∀ o, gName i (.ref L) σ (upd H' d (.frz o (.dK kvs))) D.nx) (hn : s'.heap.Ns C m) (f : FpOk X pins H' C) :
    compPost (model X.prog X.w) X.A X.xe (some (assign (.Name y py) X.env)) (fun _ s' => SP X pins D .next s') (.ref L) C (.ok .next) s' := by
  obtain ⟨d, kvs, e, hd, q⟩ := q
  cases e
  obtain ⟨od, I2⟩ := I'.lock hd trivial
  obtain ⟨f0, f1, f2, f3, f4, f5⟩ := f
  have hLC : C ≠ L := fun e => by rw [e, hd] at f0; cases f0
  have f0 : upd H' L (.frz od (.dK kvs)) C = none := by rw [upd_ne hLC]; exact f0
  show wpAny _ _ (assign (.Name y py) X.env (.ref L)) _ _ _
  refine wpAny_assign_Name (store_ok2 (v := V.ref L) I2 hN hy (.inl hyl) rfl (fun s2 I3 ⟨a, sb, ha⟩ => ?_) (.inr hyl))
  have haC : C ≠ a := by
    rcases ha with z | z
    · rw [z]; exact f1
    · exact fun e => f4 y a z e.symm
  refine ⟨m, hn.sameBut sb haC, fun h3 sb3 => ?_⟩
  exact ⟨_, _, I3.turned (t' := s2.toks) (fun b o hb e => (sb3.2 b hb).trans e) f0 f1 f3 f4 f5, q od⟩
theorem ps_setDcL {i : Nat} {y : PySem.Str} {py : Pos} {tg iter : Expr} {ifs : List Expr} {own : List (PySem.Str × Nat)} {spos : Pos} {wi : TI} {tt : TT} (hc : X.calm = true) (hN : X.N.Nodup) (hy : X.N[i]? = some y) (hyl : X.env.scope.names.lookup y = some .local)
    (hsw : swapsWith (.DictComp kx vx [⟨tg, iter, ifs, 0⟩] scope pos) (some (.Name y py)) spos.line X.env = pure true) (hi : PI X tg iter wi) (ok : BlkOk X.N X.env.scope scope own)
    (hg : ∀ (s : Shared) (H : Hp) (C : Addr) (cl : List (PySem.Str × Addr)) (fp : List Addr), PG (X.blk s H scope (compEnvC scope cl C X.env) fp) tg g) (ht : ∀ (s : Shared) (H : Hp) (C : Addr) (cl : List (PySem.Str × Addr)) (fp : List Addr), PTs (X.blk s H scope (compEnvC scope cl C X.env) fp) ifs tt)
    (hk : ∀ (s : Shared) (H : Hp) (C : Addr) (cl : List (PySem.Str × Addr)) (fp : List Addr), PE (X.blk s H scope (compEnvC scope cl C X.env) fp) kx tk) (he : ∀ (s : Shared) (H : Hp) (C : Addr) (cl : List (PySem.Str × Addr)) (fp : List Addr), PE (X.blk s H scope (compEnvC scope cl C X.env) fp) vx tv) (hs : ∀ x, foldedSetIterable iter X.env x = pure x := by intro _; rfl) :
    PS X (.Assign [.Name y py] (.DictComp kx vx [⟨tg, iter, ifs, 0⟩] scope pos) spos) (tAsg (tLk (tDc wi g tt tk tv (own.map (·.2)))) (gName i)) := by
  refine ⟨fun pins s σ H D I h => ?_⟩
  rw [exec_Assign_Name_used _ _ _ _ hsw]
  refine wpAny_bind (wpAny_standAt (wpAny_bind ?_))
  show wpAny _ X.A (do let _ ← comprehension (.DictComp kx vx [⟨tg, iter, ifs, 0⟩] scope pos) scope X.env (firstIterPos [⟨tg, iter, ifs, 0⟩] pos) newDict false (eval iter X.env) (some (assign (.Name y py) X.env))) _ _ s
  have h : tDc wi g tt tk tv (own.map (·.2)) σ H (fun x H1 => ∃ d kvs, x = .ref d ∧ H1 d = some (.dK kvs) ∧ ∀ o, gName i x σ (upd H1 d (.frz o (.dK kvs))) D.nx) := h
  refine wpAny_bind (thn (dc_core (Qf := fun _ s' => SP X pins D .next s') hc hN I hi ok hg ht hk he hs h fun L C s' m H' I' q hn f => stored_lk hN hy hyl I' q hn f) fun _ s' hq => wpAny_pure (wpAny_pure hq))
theorem ps_setDc2L {i : Nat} {y : PySem.Str} {py : Pos} {own : List (PySem.Str × Nat)} {spos : Pos} {wi : TI} (hc : X.calm = true) (hN : X.N.Nodup) (hy : X.N[i]? = some y) (hyl : X.env.scope.names.lookup y = some .local)
    (hsw : swapsWith (.DictComp kx vx [⟨t0, i0, [], 0⟩, ⟨t1, i1, [], 0⟩] scope pos) (some (.Name y py)) spos.line X.env = pure true) (src : PI X t0 i0 wi) (blk : BlkOk X.N X.env.scope scope own) (sub : ∀ i ∈ vs1, i ∈ own.map (·.2)) (pg : ∀ (s : Shared) (H : Hp) (C : Addr) (cl : List (PySem.Str × Addr)) (fp : List Addr), PG (X.blk s H scope (compEnvC scope cl C X.env) fp) t0 g)
    (pi1 : ∀ (s : Shared) (H : Hp) (C : Addr) (cl : List (PySem.Str × Addr)) (fp : List Addr), PI (X.blk s H scope (compEnvC scope cl C X.env) fp) t1 i1 wi1) (pg1 : ∀ (s : Shared) (H : Hp) (C : Addr) (cl : List (PySem.Str × Addr)) (fp : List Addr), PG (X.blk s H scope (compEnvC scope cl C X.env) fp) t1 g1)
    (pk : ∀ (s : Shared) (H : Hp) (C : Addr) (cl : List (PySem.Str × Addr)) (fp : List Addr), PE (X.blk s H scope (compEnvC scope cl C X.env) fp) kx tk) (pv : ∀ (s : Shared) (H : Hp) (C : Addr) (cl : List (PySem.Str × Addr)) (fp : List Addr), PE (X.blk s H scope (compEnvC scope cl C X.env) fp) vx tv) (plain : ∀ x, foldedSetIterable i0 X.env x = pure x := by intro _; rfl) (plain1 : ∀ env x, foldedSetIterable i1 env x = pure x := by intro _ _; rfl) :
    PS X (.Assign [.Name y py] (.DictComp kx vx [⟨t0, i0, [], 0⟩, ⟨t1, i1, [], 0⟩] scope pos) spos) (tAsg (tLk (tDcJ wi (own.map (·.2)) (jobD2 g wi1 g1 tk tv (own.map (·.2)) vs1))) (gName i)) := by
  refine ⟨fun pins s σ H D I h => ?_⟩
  rw [exec_Assign_Name_used _ _ _ _ hsw]
  refine wpAny_bind (wpAny_standAt (wpAny_bind ?_))
  show wpAny _ X.A (do let _ ← comprehension (.DictComp kx vx [⟨t0, i0, [], 0⟩, ⟨t1, i1, [], 0⟩] scope pos) scope X.env (firstIterPos [⟨t0, i0, [], 0⟩, ⟨t1, i1, [], 0⟩] pos) newDict false (eval i0 X.env) (some (assign (.Name y py) X.env))) _ _ s
  have h : tDcJ wi (own.map (·.2)) (jobD2 g wi1 g1 tk tv (own.map (·.2)) vs1) σ H (fun x H1 => ∃ d kvs, x = .ref d ∧ H1 d = some (.dK kvs) ∧ ∀ o, gName i x σ (upd H1 d (.frz o (.dK kvs))) D.nx) := h
  refine wpAny_bind (thn (dcJ_core (Qf := fun _ s' => SP X pins D .next s') hc hN I src blk (doesD2 pg pi1 pg1 pk pv sub plain1) plain h fun L C s' m H' I' q hn f => stored_lk hN hy hyl I' q hn f) fun _ s' hq => wpAny_pure (wpAny_pure hq))
end
end GX
set_option Elab.async false
set_option linter.all false
set_option maxRecDepth 100000
set_option maxHeartbeats 4000000
/-! a list within a dict (keys tuples) that grows there: held loosely until it is full -/
namespace G
open PySem L2
section
variable {Z : Wd} {M H M' H' : Hp} {B : Bas} {W : List (Nat × Addr)} {σ σ' : St} {δ δ' : List S}
variable {te ta tb ty tv tk : TE} {tt : TT} {s1 s2 : TS} {Φ : D → List S → Prop} {bs vs : List Nat} {P : Po} {wi : TI} {g : TG} {q : Addr} {xs : List D}
structure L1 (Z : Wd) (B : Bas) (M H : Hp) (σ : St) (δ : List S) (q : Addr) (xs : List D) : Prop where
  ls : ∃ vs, H q = some (.lst vs) ∧ AtL Z M vs xs
  fr : Fr B M σ δ q
theorem L1.keep {W2 : List (Nat × Addr)} (L : L1 Z B M H σ δ q xs) (hW : ∀ i a, (i, a) ∈ W2 ↔ Own σ δ i a) (ex : Ex M M') (J : I3 Z ⟨H, M⟩ W2 M' H' σ' δ') : L1 Z B M' H' σ' δ' q xs := by
  obtain ⟨vs, e, al⟩ := L.ls
  obtain ⟨a, b, c⟩ := J.stays e L.fr.m (fun i hi => L.fr.o i ((hW i q).mp hi)) (fun _ e => nomatch e)
  exact ⟨⟨vs, a, al.mono ex⟩, c, L.fr.b, b⟩
theorem L1.same (L : L1 Z B M H σ δ q xs) (ex : Ex M M') (k : ∀ a o, H a = some o → H' a = some o) (m : ∀ a o, H a = some o → M a = none → M' a = none) : L1 Z B M' H' σ δ q xs := by
  obtain ⟨vs, e, al⟩ := L.ls
  exact ⟨⟨vs, k _ _ e, al.mono ex⟩, m _ _ e L.fr.m, L.fr.b, L.fr.o⟩
variable {N : List S → List D → Prop}
end
end G
set_option Elab.async false
set_option linter.all false
set_option maxRecDepth 100000
set_option maxHeartbeats 4000000
/-! a dict keyed by tuples that is locked: a datum (D.dicT) -/
namespace GX
open PySem PySem.Spec PySem.W PySem.SeqAt PyProof.Rows L2
section
variable {X : Cx}
/-- a dict keyed by tuples that nobody else holds, from here on as it is -/
def tLkT (td : TE) : TE := fun σ H Q => td σ H fun x H1 => ∃ d kvs, x = .ref d ∧ H1 d = some (.dT kvs) ∧ ∀ o, Q x (upd H1 d (.frz o (.dT kvs)))
theorem pe_lkT {e : Expr} {td : TE} (he : PE X e td) : PE X e (tLkT td) := ⟨fun pins s σ H Q I h => thn (he.run pins s σ H _ I h) fun u s1 ⟨x, H1, I1, rx, d, kvs, ex, hd, q⟩ => by
  obtain ⟨od, I2⟩ := I1.lock hd trivial
  exact ⟨x, _, I2, rx, q od⟩⟩
def rLenTF : List V → Hp → VK → Prop := fun xs H Q => ∃ (p : Addr) (kvs : List (List Key × V)), xs = [.ref p] ∧ Rd H p (.dT kvs) ∧ Q (.int ((kvs.length : Nat) : Int)) H
theorem call_len_dTF : CallR X (.builtin "len") rLenTF := by
  intro pins s σ H xs us Q I r h
  obtain ⟨p, kvs, rfl, hp, q⟩ := h
  obtain ⟨u, rfl, rx⟩ := vals1 r
  obtain rfl : u = .ref p := rx
  obtain ⟨z, hd, ys, rel, dd⟩ := dt_rd I.hok hp
  have hl : kvs.length = ys.length := Paired.length rel
  refine call_len_dictH hd dd (by rw [← hl]; rw [sizeLine_eq] at z; omega) ?_
  rw [← hl]
  exact ⟨.int ((kvs.length : Nat) : Int), H, I.tok _, ⟨_, rfl⟩, q⟩
end
end GX
namespace G
open PySem L2
section
variable {Z : Wd} {M H M' H' : Hp} {B : Bas} {W : List (Nat × Addr)} {σ σ' : St} {δ : List S} {te ta tb ty tv : TE} {tt : TT} {ts : TA} {Φ : D → List S → Prop} {Ω : OD → List S → Prop} {bs vs : List Nat} {P : Po}
abbrev dicTD (kvs : List (List Key × D)) : D := .dicT (kvs.map (·.1)) (kvs.map (·.2))
theorem xs_retLkT {i : Nat} {kvs : List (List Key × D)} (hi : i ∉ bs) (h : δ[i]? = some (.own (.dT kvs))) (k : P.R (.d (dicTD kvs)) (δ.set i .no)) : XS Z bs (tRet (GX.tLkT (tVar i))) δ P := fun B W M H σ E hb I e => by
  obtain ⟨o0, e0, p, ho, rfl, hp, hy, hm⟩ := I.sl i _ h
  obtain ⟨us, rfl, ks, al⟩ := hy.dTI
  have I0 := I.forget (not_bor hb hi)
  have hO := Own.mk e0 h
  have hl : i < δ.length := (List.getElem?_eq_some_iff.mp h).1
  have hB : B.h p = none := (I.own i p hO).resolve_left (not_bor hb hi p)
  have no : ∀ j, ¬ Own σ (δ.set i .no) j p := fun j o => by
    by_cases e : i = j
    · subst e; exact Own.not (List.getElem?_set_self hl) hol_no o
    · exact e (I.dis i j p hO (o.same rfl (List.getElem?_set_ne e).symm))
  refine ⟨_, e0, p, us, rfl, hp, fun ob => ?_⟩
  have I2 : I3 Z B W M (upd H p (.frz ob (.dT us))) σ (δ.set i .no) := I0.other hB hm no
  have I3' := I2.hold upd_same hm hB no
  have ex : Ex M (upd M p (.frz ob (.dT us))) := Ex.new hm
  exact e.rt _ _ _ _ _ (.d (dicTD kvs)) k ex I3' (.dicT upd_same ks al.len (al.mono ex).at')
theorem xe_dgetTF (h : XE Z ta δ fun a δ1 => XE Z ty δ1 fun b δ2 => ∃ kvs k d, a = dicTD kvs ∧ b = .tupT (keysD k) ∧ dgetT kvs k = some d ∧ Φ d δ2) : XE Z (tDGet ta ty) δ Φ := XE.mk fun B W M H σ Q I q =>
  h.run I fun M1 H1 δ1 x a h1 e1 I1 at1 => XE.run h1 I1 fun M2 H2 δ2 v b h2 e2 I2 at2 => by
    obtain ⟨kvs, k, d, rfl, rfl, hd, f⟩ := h2
    cases at1.mono e2 with
    | @dicT p o us _ _ m ks l c =>
      obtain ⟨v1, hv1, a1⟩ := (dgetT_at (M := M2) ks ⟨l, c⟩).2 d hd
      obtain ⟨b, rfl, hb⟩ := key_ref at2
      exact ⟨_, v1, rfl, .inr ⟨us, k, b, .inr ⟨o, I2.ex _ _ m⟩, rfl, I2.ex _ _ hb, hv1.symm⟩, q M2 H2 δ2 _ _ f (e1.tr e2) I2 a1⟩
theorem xe_dninTF (h : XE Z ta δ fun a δ1 => XE Z tb δ1 fun b δ2 => ∃ kvs k, b = dicTD kvs ∧ a = .tupT (keysD k) ∧ Φ (.bl (!(dgetT kvs k).isSome)) δ2) : XE Z (tDNotIn ta tb) δ Φ := XE.mk fun B W M H σ Q I q =>
  h.run I fun M1 H1 δ1 x a h1 e1 I1 at1 => XE.run h1 I1 fun M2 H2 δ2 v b h2 e2 I2 at2 => by
    obtain ⟨kvs, k, rfl, rfl, f⟩ := h2
    cases at2 with
    | @dicT p o us _ _ m ks l c =>
      obtain ⟨b, rfl, hb⟩ := key_ref (at1.mono e2)
      refine ⟨p, valV us k, rfl, .inr ⟨us, k, b, .inr ⟨o, I2.ex _ _ m⟩, rfl, I2.ex _ _ hb, rfl⟩, ?_⟩
      rw [dgetT_opt ks ⟨l, c⟩]
      exact q M2 H2 δ2 _ _ f (e1.tr e2) I2 .bl
theorem xe_lenTF (h : XE Z te δ fun d δ1 => ∃ kvs, d = dicTD kvs ∧ Φ (.int (kvs.length : Nat)) δ1) : XE Z (tCB GX.rLenTF (tCons te tNil)) δ Φ := XE.mk fun B W M H σ Q I q =>
  h.run I fun M1 H1 δ1 x a h1 e1 I1 at1 => by
    obtain ⟨kvs, rfl, f⟩ := h1
    cases at1 with
    | @dicT p o us _ _ m ks l c =>
      have ul : us.length = kvs.length := by simpa using congrArg List.length ks
      refine ⟨p, us, rfl, .inr ⟨o, I1.ex _ _ m⟩, ?_⟩
      rw [ul]
      exact q M1 H1 δ1 _ _ f e1 I1 .int
/-- a comprehension that walks such a dict -/
theorem xo_lcT {g : TG} {td : TE} (h : XE Z td δ fun dd δ0 => ∃ kvs : List (List Key × D), dd = .dicT (kvs.map (·.1)) (kvs.map (·.2)) ∧ (∀ v ∈ vs, δ0[v]? = some .no) ∧ kvs.length ≤ 1000000 ∧ ∃ J : Nat → List D → List S → Prop, J 0 [] δ0 ∧
      (∀ i d acc δ1 bs, (∀ v ∈ vs, v ∉ bs) → (kvs.map fun kv => D.tupT (keysD kv.1))[i]? = some d → J i acc δ1 → XG Z vs bs g d δ1 fun δ2 => XT Z tt δ2 fun b δ3 => if b = true then XE Z te δ3 fun y δ4 => J (i + 1) (acc ++ [y]) (wipeS δ4 vs) else J (i + 1) acc (wipeS δ3 vs)) ∧
      ∀ acc δ1, J kvs.length acc δ1 → Ω (.lst acc) δ1) : XO Z (tLc (iKeys td) g tt te vs) δ Ω := XO.mk fun B W M H σ Q I q =>
  h.run I fun M' H1 δ' x0 dd f e1 I1 at0 => by
    obtain ⟨kvs, rfl, hno, hxs, Jv, j0, js, jn⟩ := f
    obtain ⟨P0, o0, us, rfl, hm0, ks0⟩ : ∃ p o us, x0 = .ref p ∧ M' p = some (.frz o (.dT us)) ∧ us.map (·.1) = kvs.map (·.1) := by
      cases at0 with
      | dicT m ks l c => exact ⟨_, _, _, rfl, m, ks⟩
    have ul : us.length = kvs.length := by simpa using congrArg List.length ks0
    refine ⟨P0, o0, rfl, .inr ⟨us, I1.ex _ _ hm0, fun A hA => ?_⟩⟩
    have hAB := I1.fresh hA
    have hAm := I1.ex.free hA
    refine lc_it ((walk_keysT (d := P0) (o := o0) (kvs := us)).mono (G' := Ex M') (fun H e => e _ _ hm0) fun _ _ _ _ _ _ y => y) (fun i H => i ≤ us.length → ∃ M'' δ'' acc av, Ex M' M'' ∧ I3 Z B W M'' H σ δ'' ∧ Jv i acc δ'' ∧ H A = some (.lst av) ∧ AtL Z M'' av acc ∧ M'' A = none ∧ (∀ j, ¬ Own σ δ'' j A) ∧ (∀ v ∈ vs, δ''[v]? = some .no) ∧ acc.length ≤ i)
      (fun _ => ⟨M', δ', [], [], Ex.rfl', I1.other hAB hAm (I1.newOwn hA), j0, upd_same, .nil, hAm, I1.newOwn hA, hno, Nat.le_refl _⟩) (fun i H hi p => ?_) (fun i x Ha Hb hi p y => ?_) (fun H p => ?_)
    · obtain ⟨M'', _, _, _, a, b, _⟩ := p hi
      exact a.tr b.ex
    · obtain ⟨M'', δ'', acc, av, a, Ia, ja, hA1, al, hAm1, hAo, hno1, hacc⟩ := p (Nat.le_of_lt hi)
      obtain ⟨rfl, k0, v0, q0, hk0, rfl, hq0⟩ := y
      have hd : (kvs.map fun kv => D.tupT (keysD kv.1))[i]? = some (D.tupT (keysD k0)) := by
        have : (us.map (·.1))[i]? = some k0 := by rw [List.getElem?_map, hk0]; rfl
        rw [ks0, List.getElem?_map] at this
        obtain ⟨kv, h1, rfl⟩ := Option.map_eq_some_iff.mp this
        rw [List.getElem?_map, h1]; rfl
      have I2 := Ia.learn (bs := [q0]) fun b hb => by rw [List.mem_singleton.mp hb]; exact ⟨_, hq0⟩
      have e2 : Ex M'' (G.learn M'' Hb [q0]) := learn_ex Ia.ex
      have at2 : At Z (G.learn M'' Hb [q0]) (.ref q0) (.tupT (keysD k0)) := .tupT (vs := k0.map kV) (by rw [learn_in (by simp)]; exact hq0) (by unfold keysD; simp) fun i v d hv hd => by
        unfold keysD at hd
        rw [List.getElem?_map] at hv hd
        obtain ⟨k, hk, rfl⟩ := Option.map_eq_some_iff.mp hv
        rw [hk] at hd
        cases hd
        exact at_key
      have hA2 := hA1
      have hAm2 : G.learn M'' Hb [q0] A = none := by
        unfold G.learn
        rw [if_neg]
        · exact hAm1
        · intro c
          rw [List.mem_singleton.mp c, hq0] at hA1
          cases hA1
      generalize G.learn M'' Hb [q0] = M2 at I2 e2 at2 hAm2
      generalize D.tupT (keysD k0) = d at hd at2
      generalize V.ref q0 = x at at2
      have hvlen : ∀ v ∈ vs, v < δ''.length := fun v hv => (List.getElem?_eq_some_iff.mp (hno1 v hv)).1
      have hWv : ∀ i p, i ∈ vs → (i, p) ∉ W := fun i p hv hw => by
        exact Own.not (hno1 i hv) hol_no (I2.bor i p hw)
      have Iw : I3 Z B W M2 Hb (wipe σ vs) δ'' := I2.swap (fun j hj => wipe_out hj) (wipe_length _ _) (fun _ _ => rfl) (fun j hj _ => hno1 j hj) rfl hWv
      have hbs : ∀ v ∈ vs, v ∉ (owns 0 (wipe σ vs) δ'').map (·.1) := fun v hv hm => by
        obtain ⟨⟨i, p⟩, hmem, rfl⟩ := List.mem_map.mp hm
        exact Own.not (hno1 _ hv) hol_no (mem_owns.mp hmem)
      have ownEq : ∀ i p, (i, p) ∈ owns 0 (wipe σ vs) δ'' ↔ Own σ δ'' i p := fun i p => by
        rw [mem_owns]
        constructor
        · intro o
          have hi' : i ∉ vs := fun hv => Own.not (hno1 i hv) hol_no o
          exact o.same (wipe_out hi').symm rfl
        · intro o
          have hi' : i ∉ vs := fun hv => Own.not (hno1 i hv) hol_no o
          exact o.same (wipe_out hi') rfl
      have fin : ∀ M4 H4 σ4 δ4, Ex M2 M4 → (∀ j, j ∉ vs → σ4[j]? = (wipe σ vs)[j]?) → σ4.length = (wipe σ vs).length → I3 Z ⟨Hb, M2⟩ (owns 0 (wipe σ vs) δ'') M4 H4 σ4 δ4 →
          I3 Z B W M4 H4 σ (wipeS δ4 vs) ∧ H4 A = some (.lst av) ∧ M4 A = none ∧ (∀ j, ¬ Own σ (wipeS δ4 vs) j A) ∧ ∀ v ∈ vs, (wipeS δ4 vs)[v]? = some .no := fun M4 H4 σ4 δ4 e4 k4 l4 J4 => by
        have hl4 : δ4.length = δ''.length := by rw [← J4.len, l4, wipe_length, Ia.len]
        have J5 : I3 Z ⟨Hb, M2⟩ (owns 0 (wipe σ vs) δ'') M4 H4 σ (wipeS δ4 vs) := J4.swap (vs := vs) (fun j hj => by rw [k4 j hj, wipe_out hj]) (by rw [l4, wipe_length]) (fun j hj => wipeS_out hj) (fun j hj hlt => wipeS_in (by rw [wipeS_len] at hlt; exact hlt) hj) (wipeS_len _) fun i p hv hw => hbs i hv (List.mem_map_of_mem (f := (·.1)) hw)
        obtain ⟨z1, z2, z3⟩ := J5.stays (a := A) hA2 hAm2 (fun i hi => hAo i ((ownEq i A).mp hi)) (fun _ e => nomatch e)
        exact ⟨I2.back ownEq J5, z1, z3, z2, fun v hv => wipeS_in (by rw [hl4]; exact hvlen v hv) hv⟩
      refine js i d acc δ'' _ hbs hd ja _ _ M2 Hb (wipe σ vs) x _ rfl Iw.rebase at2 fun M3 H3 σ3 δ3 h3 e3 J3 k3 l3 => ⟨(wipe_eq k3 l3).trans (wipe_eq (fun j hj => wipe_out hj) (wipe_length _ _)), ?_⟩
      refine h3 _ _ M3 H3 σ3 _ J3 fun M4 H4 δ4 b h4 e4 J4 => ?_
      cases b with
      | true =>
        rw [if_pos rfl] at h4 ⊢
        refine XE.run h4 J4 fun M5 H5 δ5 y' d' h5 e5 J5 at5 => ?_
        obtain ⟨z1, z2, z3, z4, z5⟩ := fin M5 H5 σ3 δ5 (e3.tr (e4.tr e5)) k3 l3 J5
        have hlen : av.length < sizeLine := Nat.lt_of_lt_of_le (by have := al.len; omega : av.length < 1000001) (by decide)
        refine ⟨av, z2, hlen, fun _ => ⟨M5, _, _, _, a.tr (e2.tr (e3.tr (e4.tr e5))), z1.other hAB z3 z4, h5, upd_same, AtL.app (al.mono (e2.tr (e3.tr (e4.tr e5)))) (.one at5), z3, z4, z5, by rw [List.length_append, List.length_singleton]; omega⟩⟩
      | false =>
        rw [if_neg Bool.false_ne_true] at h4 ⊢
        obtain ⟨z1, z2, z3, z4, z5⟩ := fin M4 H4 σ3 δ4 (e3.tr e4) k3 l3 J4
        exact fun _ => ⟨M4, _, _, _, a.tr (e2.tr (e3.tr e4)), z1, h4, z2, al.mono (e2.tr (e3.tr e4)), z3, z4, z5, Nat.le_succ_of_le hacc⟩
    · obtain ⟨M'', δ'', acc, av, a, Ia, ja, hA1, al, hAm1, hAo, hno1, _⟩ := p (Nat.le_refl _)
      exact q M'' H δ'' A _ _ (jn _ _ (ul ▸ ja)) (e1.tr a) Ia hA1 al hAm1 hAB hAo
end
end G
set_option Elab.async false
set_option linter.all false
set_option maxRecDepth 100000
set_option maxHeartbeats 4000000
/-! the place of a text in a text -/
namespace GX
open PySem PySem.Spec PySem.W PySem.SeqAt PyProof.Rows L2
end GX
namespace G
open PySem L2
end G
set_option Elab.async false
set_option linter.all false
set_option maxRecDepth 100000
set_option maxHeartbeats 4000000
/-! errors without a context; an except suite that raises another error from None -/
namespace GX
open PySem PySem.Spec PyProof.Rows L2
end GX
namespace G
open PySem L2
end G
set_option Elab.async false
set_option linter.all false
set_option maxRecDepth 100000
set_option maxHeartbeats 4000000
/-! statements behind which less is known than before them: lists that were data are changed -/
namespace G
open PySem L2
end G
set_option Elab.async false
set_option linter.all false
set_option maxRecDepth 100000
set_option maxHeartbeats 4000000
/-! dicts of prices: repr, update; a dict that was a datum is changed; dicts keyed by tuples that are walked -/
namespace G
open PySem L2
end G
namespace G
open PySem L2
/-! ### a dict that was a datum is changed -/
end G
set_option Elab.async false
set_option linter.all false
set_option maxRecDepth 100000
set_option maxHeartbeats 4000000
/-! dicts keyed by tuples: locked where they are made or handed on, walked by for -/
namespace G
open PySem L2
end G
set_option Elab.async false
set_option linter.all false
set_option maxRecDepth 100000
set_option maxHeartbeats 4000000
/-! several named except clauses; an own dict lent to a test; an own dict's values replaced and taken out -/
namespace GX
open PySem PySem.Spec PyProof.Rows L2
end GX
namespace G
open PySem L2
end G
set_option Elab.async false
set_option linter.all false
set_option maxRecDepth 100000
set_option maxHeartbeats 4000000
/-! L3ka: lambdas with parameters that capture data: the call of one, from any frame. -/
namespace GL
open PySem PySem.Spec PyProof.Rows L2 G
/-- a lambda's names -/
structure LamP (S : FnS) : Prop where
  kind : S.scope.kind = .function
  co : S.scope.isCoroutine = false
  gen : S.scope.isGenerator = false
  nd : (S.ps ++ S.cap).Nodup
  loc : ∀ x ∈ S.ps, S.scope.names.lookup x = some .local
  fr : ∀ x ∈ S.cap, S.scope.names.lookup x = some .free
  nocell : ∀ y ∈ S.scope.names, y.2 ≠ .cell
  free : ∀ y ∈ S.scope.names, y.2 = .free → y.1 ∈ S.cap
  bind : ∀ (us : List Value) (cl : List (Str × Addr)) (pm cv ctv : Value), us.length = S.ps.length → bindArgs (PySem.W.kla_fn "<lambda>" S.q S.params S.body S.scope cl pm cv ctv) ⟨us, []⟩ = pure (S.ps.zip us)
abbrev lEnv (S : FnS) (cs : List Addr) (L f c' : Addr) : Env := PySem.W.envX S.q S.scope L f (.ref c') (S.cap.zip cs)
/-- the context of a lambda's body, entered at s -/
def lCx (CX : CXT) (P : Program) (w : World) (K : PySem.W.Frag) (mg : Str → Option Value) (base : Heap) (S : FnS) (cs : List Addr) (f c' : Addr) (A : Around) (outer : List Env) (s : Shared) (H : Hp) (E : XK) : Cx where
  prog := P
  w := w
  K := K
  mg := mg
  base := base
  A := A.deeper (lEnv S cs s.heap.objs.size f c')
  N := S.ps ++ S.cap
  s_0 := s
  H_0 := H
  env := lEnv S cs s.heap.objs.size f c'
  outer := outer
  stack := lEnv S cs s.heap.objs.size f c' :: outer
  ex := []
  fn := fun _ => false
  calm := true
  pn := []
  xe := fun e s' => wpAny (model P w) (A.deeper (lEnv S cs s.heap.objs.size f c')) (leaving (lEnv S cs s.heap.objs.size f c') e) (fun _ s'' => CX outer H s E e s'') (fun e' s'' => CX outer H s E e' s'') s'
/-- a cell holds the value v -/
def Holds (h : Heap) (c : Addr) (v : V) : Prop := ∃ o u, h.get? c = some o ∧ o.data = .cell (some u) ∧ RelV v u
theorem zip_lookup {ps : List Str} {cs : List Addr} {x : Str} {c : Addr} (h : (ps.zip cs).lookup x = some c) : ∃ i : Nat, ps[i]? = some x ∧ cs[i]? = some c := by
  induction ps generalizing cs with
  | nil => simp at h
  | cons p ps ih =>
    cases cs with
    | nil => simp at h
    | cons d cs =>
      rw [List.zip_cons_cons, List.lookup_cons] at h
      by_cases e : x = p
      · subst e
        rw [beq_self_eq_true] at h
        cases h
        exact ⟨0, rfl, rfl⟩
      · rw [beq_eq_false_iff_ne.mpr e] at h
        obtain ⟨i, a, b⟩ := ih h
        exact ⟨i + 1, a, b⟩
theorem lookup_zipA {ps : List Str} {cs : List Addr} {x : Str} {c : Addr} {i : Nat} (nd : ps.Nodup) (h : ps[i]? = some x) (k : cs[i]? = some c) : (ps.zip cs).lookup x = some c := by
  induction ps generalizing cs i with
  | nil => simp at h
  | cons p ps ih =>
    cases cs with
    | nil => simp at k
    | cons d cs =>
      obtain ⟨n1, n2⟩ := List.nodup_cons.mp nd
      rw [List.zip_cons_cons, List.lookup_cons]
      cases i with
      | zero =>
        cases h; cases k
        rw [beq_self_eq_true]
      | succ i =>
        have hm : x ∈ ps := List.mem_of_getElem? (i := i) (by simpa using h)
        have hne : x ≠ p := fun e => n1 (e ▸ hm)
        rw [beq_eq_false_iff_ne.mpr hne]
        exact ih n2 (by simpa using h) (by simpa using k)
section
variable {CX : CXT} {P : Program} {w : World} {K : PySem.W.Frag} {mg : Str → Option Value} {base : Heap} {S : FnS} {cs : List Addr} {f c' : Addr} {A : Around} {outer : List Env} {s : Shared} {H : Hp} {E : XK}
theorem lam_start {us : List Value} {vs cvs : List V} {h₁ : Heap} {tk : Nat} (L : LamP S) (e0 : Env0 P w K mg base A outer s H) (hd : A.handled = none)
    (hns : h₁.Ns s.heap.objs.size fun x => (S.ps.zip us).reverse.lookup x) (kp : ∀ b o, s.heap.get? b = some o → h₁.get? b = some o) (r : Vals vs us) (hl : vs.length = S.ps.length)
    (ndc : cs.Nodup) (lc : cs.length = S.cap.length) (lv : cvs.length = cs.length) (hc : ∀ (i : Nat) c v, cs[i]? = some c → cvs[i]? = some v → H c = none ∧ Holds s.heap c v) :
    Inv (lCx CX P w K mg base S cs f c' A outer s H E) [] (L2.start (S.ps ++ S.cap) (vs ++ cvs)) H { s with heap := h₁, toks := tk } := by
  have hul : us.length = S.ps.length := by rw [← r.length, hl]
  obtain ⟨nd1, nd2, ndx⟩ := List.nodup_append.mp L.nd
  have noA : ∀ b : Addr, b ∉ (lCx CX P w K mg base S cs f c' A outer s H E).ex := fun b z => absurd (show b ∈ ([] : List Addr) from z) (by simp)
  have cellAt : ∀ {x : Str} {c : Addr}, (S.cap.zip cs).lookup x = some c → ∃ (i : Nat) (v : V), S.cap[i]? = some x ∧ cs[i]? = some c ∧ cvs[i]? = some v ∧ H c = none ∧ Holds s.heap c v := fun {x c} h => by
    obtain ⟨i, a, b⟩ := zip_lookup h
    have hi : i < cvs.length := by rw [lv]; exact (List.getElem?_eq_some_iff.mp b).1
    exact ⟨i, cvs[i], a, b, by simp [hi], hc i c _ b (by simp [hi])⟩
  have freeAt : ∀ {x : Str}, S.scope.names.lookup x = some .free → ∃ c, (S.cap.zip cs).lookup x = some c := fun {x} h => by
    have hm := L.free _ (PySem.mem_of_lookup h) rfl
    obtain ⟨i, hi, e⟩ := List.getElem_of_mem hm
    have hi' : i < cs.length := by rw [lc]; exact hi
    have ex : S.cap[i]? = some x := by rw [List.getElem?_eq_getElem hi]; exact congrArg some e
    exact ⟨cs[i], lookup_zipA nd2 (i := i) ex (by simp [hi'])⟩
  refine ⟨⟨e0.mod, L.kind, rfl, rfl, Nat.le_refl _, fun x y c h1 h2 => ?_, fun y hy => ?_, fun y c z _ => ?_, fun _ => hd, Around.frames_deeper e0.frames, .inr ⟨rfl, rfl⟩, fun b z => absurd z (noA b), e0.bs, e0.bsz, fun b _ _ => noA b, fun b z => absurd z (noA b), e0.funs, e0.frf⟩,
    rfl, e0.bare, Un.kept kp, ⟨_, hns, fun i y v e1 e2 e3 => ?_⟩, fun y c e => ?_, e0.hok.fresh (Nat.le_refl _), fun y c e => ?_, fun q hq => absurd (show q ∈ ([] : List (Addr × Obj)) ++ [] from hq) (by simp), e0.hok.kept kp, ?_⟩
  · obtain ⟨i, a, b⟩ := zip_lookup h1
    obtain ⟨j, a', b'⟩ := zip_lookup h2
    obtain ⟨hi, ei⟩ := List.getElem?_eq_some_iff.mp b
    obtain ⟨hj, ej⟩ := List.getElem?_eq_some_iff.mp b'
    have : i = j := (List.getElem_inj ndc).mp (ei.trans ej.symm)
    subst this
    rw [a] at a'; cases a'; rfl
  · have hy : S.scope.names.lookup y = some .cell ∨ S.scope.names.lookup y = some .free := hy
    rcases hy with hy | hy
    · exact absurd rfl (L.nocell _ (PySem.mem_of_lookup hy))
    · exact freeAt hy
  · have z : false = true := z
    cases z
  · have e1 : (S.ps ++ S.cap)[i]? = some y := e1
    have e3 : Vis S.scope y := e3
    by_cases hi : i < S.ps.length
    · rw [List.getElem?_append_left hi] at e1
      have hm : y ∈ S.ps := List.mem_of_getElem? e1
      have hloc := L.loc y hm
      have hv : vs[i]? = some v := by
        unfold L2.start at e2
        rw [List.getElem?_append_left (by simp; omega), List.getElem?_map, List.getElem?_append_left (by omega)] at e2
        cases q : vs[i]? with
        | none => rw [q] at e2; cases e2
        | some a => rw [q] at e2; cases e2; rfl
      obtain ⟨u, hu, rv⟩ := r.get hv
      refine ⟨u, rv, .inl ⟨hloc, ?_⟩⟩
      have kl : ∀ x ∈ S.ps.zip us, (fun z => S.scope.names.lookup z) x.1 = some .local := fun ⟨n, v⟩ hx => L.loc n (List.of_mem_zip hx).1
      have := bindL_loc (kindOf := fun z => S.scope.names.lookup z) (S.ps.zip us) (fun _ => none) kl y
      rw [bindL_get nd1 e1 hu hloc] at this
      cases q : (S.ps.zip us).reverse.lookup y with
      | none => rw [q] at this; cases this
      | some z => rw [q] at this; cases this; exact q
    · rw [List.getElem?_append_right (by omega)] at e1
      have hm : y ∈ S.cap := List.mem_of_getElem? e1
      have hfr := L.fr y hm
      have hv : cvs[i - S.ps.length]? = some v := by
        have hi2 := (List.getElem?_eq_some_iff.mp e1).1
        unfold L2.start at e2
        rw [List.getElem?_append_left (by simp; omega), List.getElem?_map, List.getElem?_append_right (by omega), hl] at e2
        cases q : cvs[i - S.ps.length]? with
        | none => rw [q] at e2; cases e2
        | some a => rw [q] at e2; cases e2; rfl
      have hj : i - S.ps.length < cs.length := by rw [← lv]; exact (List.getElem?_eq_some_iff.mp hv).1
      have hcs : cs[i - S.ps.length]? = some cs[i - S.ps.length] := by simp [hj]
      obtain ⟨hn, o, u, ho, hd, rv⟩ := hc _ _ _ hcs hv
      exact ⟨u, rv, .inr ⟨.inr hfr, _, lookup_zipA nd2 e1 hcs, o, kp _ _ ho, hd⟩⟩
  · obtain ⟨i, v, a, b, d, hn, o, u, ho, hd, rv⟩ := cellAt e
    exact ⟨some u, o, kp _ _ ho, hd⟩
  · obtain ⟨i, v, a, b, d, hn, _⟩ := cellAt e
    exact hn
  · show (L2.start (S.ps ++ S.cap) (vs ++ cvs)).length = (S.ps ++ S.cap).length
    unfold L2.start
    simp only [List.length_append, List.length_map, List.length_replicate]
    omega
end
/-- a lambda's promise: told of any state in which it stands, its cells untracked -/
structure LamOk (P : Program) (w : World) (K : PySem.W.Frag) (mg : Str → Option Value) (base : Heap) (CX : CXT) (k : Nat) (S : FnS) (sp : Sp) : Prop where
  len : ∀ vs H Q E, sp vs H Q E → vs.length = S.ps.length + S.cap.length
  run : ∀ (A : Around) (outer : List Env) (s : Shared) (H : Hp) (us : List Value) (vs cvs : List V) (Q : VK) (E : XK) (f c' : Addr) (cs : List Addr) (pm ctv : Value), Room k A → Env0 P w K mg base A outer s H →
    s.heap.get? f = some (lamO S cs pm c' ctv) → (∃ (oc : Obj) (ws : Array Value) (t : Tok), s.heap.get? c' = some oc ∧ oc.data = .fields ws ∧ ws[1]? = some (.str S.q t)) → cs.Nodup → cs.length = S.cap.length → cvs.length = cs.length →
    (∀ (i : Nat) c v, cs[i]? = some c → cvs[i]? = some v → H c = none ∧ Holds s.heap c v) → Vals vs us → sp (vs ++ cvs) H Q E →
    codeAny (model P w) A (.call (.ref f) ⟨us, []⟩) (CR CX outer P w H s Q E) s
theorem lam_of {CX : CXT} {P : Program} {w : World} {K : PySem.W.Frag} {mg : Str → Option Value} {base : Heap} {k : Nat} {S : FnS} {sp : Sp} (L : LamP S) (len : ∀ vs H Q E, sp vs H Q E → vs.length = S.ps.length + S.cap.length)
    (hbody : ∀ (A : Around) (outer : List Env) (s : Shared) (H : Hp) (vs : List V) (Q : VK) (E : XK) (f c' : Addr) (cs : List Addr), Room k (A.deeper (lEnv S cs s.heap.objs.size f c')) → sp vs H Q E →
      ∃ t, PE (lCx CX P w K mg base S cs f c' A outer s H E) S.body t ∧ t (L2.start (S.ps ++ S.cap) vs) H Q) : LamOk P w K mg base CX (k + 1) S sp := by
  refine ⟨len, fun A outer s H us vs cvs Q E f c' cs pm ctv hr e0 hf hco ndc lc lv hc r hsp => ?_⟩
  have hl : vs.length = S.ps.length := by
    have := len _ _ _ _ hsp
    rw [List.length_append, lv, lc] at this
    omega
  have hul : us.length = S.ps.length := by rw [← r.length, hl]
  obtain ⟨oc, ws, t, hoc, hdc, hvc⟩ := hco
  have lim : s.heap.NoLimit := e0.mod.nolimit.keeps fun b o e => (e0.bs b o e).1
  refine PySem.W.kla_callFunE hr.depth hf rfl L.co L.gen rfl ⟨c', oc, ws, t, rfl, hoc, hdc, hvc⟩ ?_
  rw [L.bind us _ _ _ _ hul]
  refine wpAny_pure (wpAny_newFunctionEnv L.nocell (fun ⟨n, v⟩ hy => L.loc n (List.of_mem_zip hy).1) (fun h₁ hns hsb => ⟨lim.fresh _ hsb, ?_⟩) L.kind)
  show codeAny _ _ (.expr S.body (lEnv S cs s.heap.objs.size f c')) _ _
  have kp : ∀ b o, s.heap.get? b = some o → h₁.get? b = some o := fun b o e => hsb.extBut b o (Nat.ne_of_lt (Heap.lt_size e)) (Heap.get?_push_of_some _ e)
  have J : Inv (lCx CX P w K mg base S cs f c' A outer s H E) [] (L2.start (S.ps ++ S.cap) (vs ++ cvs)) H { s with heap := h₁, toks := s.toks + (S.ps.zip us).length } :=
    lam_start L e0 hr.hd hns kp r hl ndc lc lv hc
  obtain ⟨te, hte, ht⟩ := hbody A outer s H (vs ++ cvs) Q E f c' cs (hr.deeper _) hsp
  refine PySem.W.kla_codeExpr (wpAny_mono (hte.run [] _ _ H Q J ht) (fun v s' hq => ?_) fun e s' hq => hq)
  obtain ⟨w', H', J', rv, q⟩ := hq
  exact ⟨w', H', J'.os, J'.bare, J'.base, J'.hok, rv, q⟩
/-! ### the cells are known while the lambda is handed about: hidden and shown again -/
def hideA (H : Hp) (cs : List Addr) : Hp := fun b => if b ∈ cs then none else H b
theorem hideA_in {H : Hp} {cs : List Addr} {b : Addr} (h : b ∈ cs) : hideA H cs b = none := by unfold hideA; rw [if_pos h]
theorem hideA_out {H : Hp} {cs : List Addr} {b : Addr} (h : b ∉ cs) : hideA H cs b = H b := by unfold hideA; rw [if_neg h]
theorem hideA_some {H : Hp} {cs : List Addr} {b : Addr} {o : HO} (h : hideA H cs b = some o) : b ∉ cs ∧ H b = some o := by
  unfold hideA at h
  split at h
  · cases h
  · rename_i n; exact ⟨n, h⟩
/-- H' behind, with what H told of the hidden ones -/
def showA (H' H : Hp) (cs : List Addr) : Hp := fun b => if b ∈ cs then H b else H' b
theorem showA_in {H H' : Hp} {cs : List Addr} {b : Addr} (h : b ∈ cs) : showA H' H cs b = H b := by unfold showA; rw [if_pos h]
theorem showA_out {H H' : Hp} {cs : List Addr} {b : Addr} (h : b ∉ cs) : showA H' H cs b = H' b := by unfold showA; rw [if_neg h]
/-- all of cs are pinned -/
def Pins (H : Hp) (cs : List Addr) : Prop := ∀ c ∈ cs, ∃ o, H c = some (PinO c o)
theorem pin_ne_tup {c : Addr} {o : Obj} (xs : List V) : PinO c o ≠ .tup xs := fun z => by unfold PinO at z; cases z
theorem pin_ne_frz {c : Addr} {o ob : Obj} (u : HO) : PinO c o ≠ .frz ob u := fun z => by unfold PinO at z; cases z
theorem pin_ne_tbl {c : Addr} {o : Obj} (ps : Array Value) : PinO c o ≠ .tbl ps := fun z => by unfold PinO at z; cases z
theorem pin_ne_own {c : Addr} {o : Obj} (x : Addr) : PinO c o ≠ .own x := fun z => by unfold PinO at z; cases z
theorem pin_ok {P : Program} {w : World} {H : Hp} {h : Heap} {c : Addr} {o : Obj} (x : ObjOk P w H h c (PinO c o)) : h.get? c = some o := x.1
theorem pin_mk {P : Program} {w : World} {H : Hp} {h : Heap} {c : Addr} {o : Obj} (e : h.get? c = some o) : ObjOk P w H h c (PinO c o) := ⟨e, ⟨o, e⟩, fun _ _ a st => st _ a⟩
section
variable {P : Program} {w : World} {K : PySem.W.Frag} {mg : Str → Option Value} {base : Heap} {A : Around} {outer : List Env} {s s' : Shared} {H H' : Hp} {cs : List Addr} {fs : List Addr}
theorem pins_ne {o : HO} {b : Addr} (pn : Pins H cs) (h : H b = some o) (n : ∀ c ob, o ≠ PinO c ob) : b ∉ cs := fun z => by
  obtain ⟨ob, e⟩ := pn b z
  rw [h] at e; cases e
  exact n _ _ rfl
theorem hok_hide (x : HOk P w H s.heap) (pn : Pins H cs) : HOk P w (hideA H cs) s.heap := fun a o e => by
  obtain ⟨n, e⟩ := hideA_some e
  exact (x a o e).stay (fun b u _ q => q) (fun b q => by rw [hideA_out (pins_ne pn q fun c ob z => pin_ne_own _ z.symm)]; exact q) fun b xs q => by rw [hideA_out (pins_ne pn q fun c ob z => pin_ne_tup _ z.symm)]; exact q
theorem env0_hide (e : Env0 P w K mg base A outer s H) (pn : Pins H cs) : Env0 P w K mg base A outer s (hideA H cs) :=
  ⟨e.frames, e.mod, fun b o q => ⟨(e.bs b o q).1, by
    by_cases h : b ∈ cs
    · exact hideA_in h
    · rw [hideA_out h]; exact (e.bs b o q).2⟩, e.bsz, e.funs, fun b hb => by
    by_cases h : b ∈ cs
    · exact hideA_in h
    · rw [hideA_out h]; exact e.frf b hb, hok_hide e.hok pn, e.bare⟩
/-- behind a call in which the pinned ones were hidden -/
theorem un_show (u : Un fs [] (hideA H cs) H' s.heap s'.heap) (pn : Pins H cs) (hok : HOk P w H s.heap) (hok' : HOk P w H' s'.heap) (nf : ∀ c ∈ cs, c ∉ fs) :
    Un fs [] H (showA H' H cs) s.heap s'.heap ∧ HOk P w (showA H' H cs) s'.heap := by
  have at_ : ∀ c ∈ cs, ∃ o, H c = some (PinO c o) ∧ s'.heap.get? c = some o ∧ H' c = none := fun c hc => by
    obtain ⟨o, e⟩ := pn c hc
    have g := pin_ok (hok c _ e)
    exact ⟨o, e, u.keep c o g (hideA_in hc) (nf c hc) (by simp), u.free c o g (hideA_in hc) (by simp)⟩
  have out : ∀ b, H b = none → b ∉ cs := fun b n z => by
    obtain ⟨o, e⟩ := pn b z
    rw [n] at e; cases e
  refine ⟨⟨fun b o e n hb hx => ?_, fun b o e n hb hx => ?_, fun b o e n hx => ?_, u.there, fun b xs q => ?_, fun b o v q => ?_, fun b ps q => ?_⟩, fun b o e => ?_⟩
  · exact u.keep b o e (by rw [hideA_out (out b n)]; exact n) hb hx
  · exact u.slot b o e (by rw [hideA_out (out b n)]; exact n) hb hx
  · rw [showA_out (out b n)]
    exact u.free b o e (by rw [hideA_out (out b n)]; exact n) hx
  · have nb := pins_ne pn q fun c ob z => pin_ne_tup _ z.symm
    rw [showA_out nb]
    exact u.tups b xs (by rw [hideA_out nb]; exact q)
  · have nb := pins_ne pn q fun c ob z => pin_ne_frz _ z.symm
    rw [showA_out nb]
    exact u.frzs b o v (by rw [hideA_out nb]; exact q)
  · have nb := pins_ne pn q fun c ob z => pin_ne_tbl _ z.symm
    rw [showA_out nb]
    exact u.tbls b ps (by rw [hideA_out nb]; exact q)
  · by_cases hb : b ∈ cs
    · rw [showA_in hb] at e
      obtain ⟨o1, e1, e2, _⟩ := at_ b hb
      rw [e1] at e; cases e
      exact pin_mk e2
    · rw [showA_out hb] at e
      refine (hok' b o e).stay (fun c v _ q => q) (fun c q => ?_) fun c xs q => ?_
      · rw [showA_out fun z => by obtain ⟨_, _, _, n⟩ := at_ c z; rw [q] at n; cases n]; exact q
      · rw [showA_out fun z => by obtain ⟨_, _, _, n⟩ := at_ c z; rw [q] at n; cases n]; exact q
end
/-- the lambda f of the text S stands in H, its cells pinned, holding cvs -/
structure LamAt (H : Hp) (S : FnS) (f c' : Addr) (cs : List Addr) (pm ctv : Value) (cvs : List V) : Prop where
  f : H f = some (PinO f (lamO S cs pm c' ctv))
  c : H c' = some (LamX.CodeO c' S.q)
  lc : cs.length = S.cap.length
  lv : cs.length = cvs.length
  nd : cs.Nodup
  at' : ∀ (i : Nat) c v, cs[i]? = some c → cvs[i]? = some v → ∃ o u, H c = some (PinO c o) ∧ o.data = .cell (some u) ∧ RelV v u
theorem LamAt.pins {H : Hp} {S : FnS} {f c' : Addr} {cs : List Addr} {pm ctv : Value} {cvs : List V} (h : LamAt H S f c' cs pm ctv cvs) : Pins H cs := fun c hc => by
  obtain ⟨i, hi, e⟩ := List.getElem_of_mem hc
  have hi' : i < cvs.length := h.lv ▸ hi
  obtain ⟨o, u, a, _⟩ := h.at' i c cvs[i] (by rw [← e]; simp [hi]) (by simp [hi'])
  exact ⟨o, a⟩
/-- the call's promise in terms of the shown heap -/
def spV (S : FnS) (sp : Sp) (f : Addr) (vs : List V) (H : Hp) (Q : VK) (E : XK) : Prop :=
  ∃ c' cs pm ctv cvs, LamAt H S f c' cs pm ctv cvs ∧ sp (vs ++ cvs) (hideA H cs) (fun v H' => (∀ c ∈ cs, H' c = none) → Q v (showA H' H cs)) (fun e d H' => E e d (showA H' H cs))
end GL
namespace GL
open PySem PySem.Spec PyProof.Rows L2 G
/-- x(..), x a name that holds the lambda -/
def tCallV (S : FnS) (i : Nat) (sp : Sp) (E : XK) (t : TA) : TE := fun σ H Q => ∃ f, σ[i]? = some (some (.ref f)) ∧ (∃ c' cs pm ctv cvs, LamAt H S f c' cs pm ctv cvs) ∧ t σ H fun vs H1 => spV S sp f vs H1 Q E
theorem fnAt_pin {X : Cx} {pins : List (Addr × Obj)} {σ : L2.St} {H : Hp} {s : Shared} {S : FnS} {f c' : Addr} {cs : List Addr} {pm ctv : Value} {cvs : List V} (I : Inv X pins σ H s) (h : LamAt H S f c' cs pm ctv cvs) : PySem.W.FnAt f s.heap :=
  ⟨_, _, _, _, pin_ok (I.hok f _ h.f)⟩
section
variable {X : Cx} {CX : CXT} {S : FnS} {i j k : Nat} {x : Str} {sp : Sp} {E : XK} {t : TA} {e : Expr} {es : List Expr} {p pos : Pos}
/-- how an exception of a lambda lies: its pinned ones shown again -/
theorem run_lam {pins : List (Addr × Obj)} {σ : L2.St} {H : Hp} {s : Shared} {Q : VK} {f : Addr} {us : List Value} {vs : List V} (F : LamOk X.prog X.w X.K X.mg X.base CX k S sp) (hr : Room k X.A)
    (hx : ∀ (pins : List (Addr × Obj)) (σ : L2.St) (H : Hp) (s : Shared) (e : Value) (s' : Shared) (cs : List Addr), Pins H cs → Inv X pins σ H s → CX X.stack (hideA H cs) s (fun e d H' => E e d (showA H' H cs)) e s' → X.xe e s')
    (I : Inv X pins σ H s) (r : Vals vs us) (q : spV S sp f vs H Q E) : wpAny (model X.prog X.w) X.A (call (.ref f) us) (EP X pins σ Q) X.xe s := by
  obtain ⟨c', cs, pm, ctv, cvs, L, q⟩ := q
  have pn := L.pins
  have e0 := I.env0
  have hf := pin_ok (I.hok f _ L.f)
  obtain ⟨⟨oc, ws, t, hoc, hdc, hvc⟩, _, _⟩ := I.hok c' _ L.c
  refine wpAny_call (codeAny_mono (F.run X.A X.stack s (hideA H cs) us vs cvs _ _ f c' cs pm ctv hr (env0_hide e0 pn) hf ⟨oc, ws, t, hoc, hdc, hvc⟩ L.nd L.lc L.lv.symm (fun i c v h1 h2 => ?_) r q) fun r s' hq => ?_)
  · obtain ⟨o, u, a, b, d⟩ := L.at' i c v h1 h2
    exact ⟨hideA_in (List.mem_of_getElem? h1), o, u, pin_ok (I.hok c _ a), b, d⟩
  · cases r with
    | error e => exact hx pins σ H s e s' cs pn I hq
    | ok fl =>
      cases fl with
      | ret u =>
        obtain ⟨v, H', os, bare, un, hok, rv, q⟩ := hq
        obtain ⟨un2, hok2⟩ := un_show (s' := s') un pn I.hok hok fun c hc z => by
          obtain ⟨o, e⟩ := pn c hc
          rw [e0.frf c z] at e; cases e
        refine I.after ⟨v, showA H' H cs, os, bare, un2, hok2, rv, q fun c hc => ?_⟩
        obtain ⟨o, e⟩ := pn c hc
        exact un.free c o (pin_ok (I.hok c _ e)) (hideA_in hc) (by simp)
      | next => exact False.elim hq
      | brk => exact False.elim hq
      | cont => exact False.elim hq
theorem pe_callV (F : LamOk X.prog X.w X.K X.mg X.base CX k S sp) (hr : Room k X.A)
    (hx : ∀ (pins : List (Addr × Obj)) (σ : L2.St) (H : Hp) (s : Shared) (e : Value) (s' : Shared) (cs : List Addr), Pins H cs → Inv X pins σ H s → CX X.stack (hideA H cs) s (fun e d H' => E e d (showA H' H cs)) e s' → X.xe e s')
    (hN : X.N[i]? = some x) (hv : Vis X.env.scope x) (ha : PA X (e :: es) t)
    (hd : (x == ("__debug__" : Str)) = false := by decide) (hcd : (x == ("__classdict__" : Str)) = false := by decide)
    (he : starEach (e :: es) X.env = (false, eval e X.env) :: starEach es X.env := by rfl) (hpl : (backTo pos (starEach es X.env)).any (·.1) = false := by rfl) :
    PE X (.Call (.Name x p) (e :: es) [] pos) (tCallV S i sp E t) := by
  refine ⟨fun pins s σ H Q I h => ?_⟩
  obtain ⟨f, hs, ⟨c', cs, pm, ctv, cvs, L⟩, ht⟩ := h
  refine wpAny_Call_Name_kw (thn ((pe_var (pos := p) hN hv hd hcd).run pins s σ H (fun v H1 => v = .ref f ∧ H1 = H) I ⟨.ref f, hs, rfl, rfl⟩) fun u s1 ⟨v, H1, I1, r1, q1⟩ => ?_)
  obtain ⟨ev, eH⟩ := q1
  subst ev
  rw [eH] at I1
  obtain rfl : u = Value.ref f := r1
  refine PySem.W.callWith_F (first := []) (fnAt_pin I1 L) (thn (ha.run pos pins s1 σ H _ I1 ht) fun us s2 ⟨vs, H2, I2, r, q⟩ => ⟨?_, ?_⟩) he hpl
  · obtain ⟨_, _, _, _, _, L2, _⟩ := q
    exact fnAt_pin I2 L2
  · show wpAny _ _ (call (.ref f) us) _ _ _
    exact run_lam F hr hx I2 r q
end
/-- without errors -/
theorem lam_pass0 {X : Cx} : ∀ (pins : List (Addr × Obj)) (σ : L2.St) (H : Hp) (s : Shared) (e : Value) (s' : Shared) (cs : List Addr), Pins H cs → Inv X pins σ H s → L2.CX0 X.stack (hideA H cs) s (fun e d H' => L2.E0 e d (showA H' H cs)) e s' → X.xe e s' :=
  fun _ _ _ _ _ _ _ _ _ h => h.elim
end GL
set_option Elab.async false
set_option linter.all false
set_option maxRecDepth 100000
set_option maxHeartbeats 4000000
/-! L3kb: the making of a lambda (told: it is new), a call with cells pinned. -/
namespace GL
open PySem PySem.Spec PyProof.Rows L2 G
open LamX (Tabs TabS TabB ExtN CodeO)
section
variable {X : Cx} {pins : List (Addr × Obj)} {σ : L2.St} {H : Hp} {s : Shared}
/-- the tables behind the making -/
theorem tabs_grow {T : List (Addr × Str)} {P c : Addr} {q : Str} {ps : Array Value} {ln cl : Nat} (hT : Tabs T H) (hP : H P = some (.tbl ps)) (nC : H c = none) (hq : ∀ p ∈ T, p.1 = P → p.2 = q) :
    ExtN H (upd (upd H P (.tbl (ps ++ #[rawInt ln, rawInt cl, .ref c]))) c (CodeO c q)) ∧ Tabs T (upd (upd H P (.tbl (ps ++ #[rawInt ln, rawInt cl, .ref c]))) c (CodeO c q)) := by
  have nPc : P ≠ c := ne_of_none hP nC
  have ex : ExtN H (upd (upd H P (.tbl (ps ++ #[rawInt ln, rawInt cl, .ref c]))) c (CodeO c q)) := by
    intro b o eb nb
    have h1 : b ≠ c := ne_of_none eb nC
    have h2 : b ≠ P := by
      rintro rfl
      rw [hP] at eb
      exact nb ps (Option.some.inj eb).symm
    rw [upd_ne h1, upd_ne h2]
    exact eb
  refine ⟨ex, ?_⟩
  intro p hp
  by_cases hb : p.1 = P
  · rw [hq p hp hb, hb]
    obtain ⟨ps0, t1, t2, t3⟩ := hT p hp
    rw [hb, hP] at t1
    obtain rfl : ps = ps0 := by cases t1; rfl
    have et : (ps ++ #[rawInt ln, rawInt cl, Value.ref c]).toList = ps.toList ++ [rawInt ln, rawInt cl, .ref c] := by simp
    refine ⟨ps ++ #[rawInt ln, rawInt cl, .ref c], by rw [upd_ne nPc, upd_same], ?_, ?_⟩
    · rw [et]; exact PySem.TriplesOk_snoc _ _ _ _ t2
    · intro p' cv hcv
      rw [et] at hcv
      rcases LamX.among_app (pos := ⟨ln, cl, 0, 0⟩) _ t2 hcv with z | z
      · obtain ⟨c0, e1, e2⟩ := t3 p' cv z
        rw [hq p hp hb] at e2
        exact ⟨c0, e1, ex _ _ e2 LamX.codeO_ne⟩
      · exact ⟨c, z, upd_same⟩
  · obtain ⟨ps', t1, t2, t3⟩ := hT p hp
    refine ⟨ps', by rw [upd_ne (ne_of_none t1 nC), upd_ne hb]; exact t1, t2, ?_⟩
    intro p' cv hcv
    obtain ⟨c0, e1, e2⟩ := t3 p' cv hcv
    exact ⟨c0, e1, ex _ _ e2 LamX.codeO_ne⟩
/-- a lambda is made -/
theorem lam_new {T : List (Addr × Str)} {c P : Addr} {params : Arguments} {body : Expr} {scope : Scope} {pos : Pos} {E Q : Value → Shared → Prop} (I : Inv X pins σ H s) (TB : TabB X.base X.mg c P) (hcode : X.env.code = .ref c)
    (hm : (P, X.env.qual ++ "<lambda>") ∈ T) (hu : ∀ p ∈ T, p.1 = P → p.2 = X.env.qual ++ "<lambda>") (hT : Tabs T H) (hdef : defaultsOf params X.env = ([], [])) (hfr : ∀ y ∈ scope.names, y.2 = .free → ∃ c, X.env.cells.lookup y.1 = some c)
    (fin : ∀ (f c' : Addr) (pm ctv : Value) (H1 : Hp) (s' : Shared), Inv X pins σ H1 s' → ExtN H H1 → Tabs T H1 →
      s'.heap.get? f = some (PySem.W.kla_obj "<lambda>" (X.env.qual ++ "<lambda>") params body scope (cloFrom X.env.cells scope.names []) pm c' ctv) → s.heap.objs.size ≤ f → H1 f = none → H1 c' = some (CodeO c' (X.env.qual ++ "<lambda>")) → (∀ b, H b = none → H1 b = none ∨ (b = c' ∧ s.heap.objs.size ≤ b)) → (∀ b o, H b = some o → b ≠ P → H1 b = some o) → Q (.ref f) s') :
    wpAny (model X.prog X.w) X.A (eval (.Lambda params body scope pos) X.env) Q E s := by
  obtain ⟨ps, hP, tOk, tAt⟩ := hT _ hm
  have bi : s.heap.BuiltinsAt X.mg P := TB.bm.keeps I.bk
  have oP : s.heap.get? P = some { cls := .none, data := .fields ps } := I.hok P _ hP
  refine PySem.W.kla_eval hdef ?_
  rcases hca : codeAmong pos ps.toList with _ | cv
  · refine PySem.W.kla_makeFunction (mg := X.mg) (c := c) (P := P) (ps := ps) (closure_ok hfr) I.ok.glob (I.mod.glob.keeps I.bk) hcode (TB.code.keeps I.bk) oP tOk hca TB.gP bi ?_
    intro c' ctv g tk ext low lt rec tab
    obtain ⟨c2, oc, vs, t, ec, hoc, hd, hv⟩ := rec
    obtain rfl : c' = c2 := by cases ec; rfl
    have nC : H c' = none := I.hok.fresh low
    obtain ⟨k1, k2⟩ := tabs_grow (ln := pos.line) (cl := pos.col) hT hP nC hu
    have J := LamX.inv_table (t' := tk) (more := #[rawInt pos.line, rawInt pos.col, .ref c']) (h' := g.push (PySem.W.kla_obj "<lambda>" (X.env.qual ++ "<lambda>") params body scope (cloFrom X.env.cells scope.names []) ((X.mg "__name__").getD .none) c' ctv)) I hP
      (fun b o hb e => Heap.get?_push_of_some _ (ext b o hb e)) (Heap.get?_push_of_some _ tab) low ⟨oc, vs, t, Heap.get?_push_of_some _ hoc, hd, hv⟩
    have up : s.heap.objs.size ≤ g.objs.size := Nat.le_trans low (Nat.le_of_lt lt)
    refine fin g.objs.size c' _ ctv _ _ J k1 k2 (Heap.get?_push_size _ rfl) up ?_ upd_same ?_ ?_
    · have m1 : g.objs.size ≠ c' := Nat.ne_of_gt lt
      have m2 : g.objs.size ≠ P := Nat.ne_of_gt (Nat.lt_of_lt_of_le (Heap.lt_size oP) up)
      rw [upd_ne m1, upd_ne m2]
      exact I.hok.fresh up
    · intro b hb
      by_cases e1 : b = c'
      · exact .inr ⟨e1, by rw [e1]; exact low⟩
      · refine .inl ?_
        rw [upd_ne e1, upd_ne (by rintro rfl; rw [hP] at hb; cases hb)]
        exact hb
    · intro b o eb nb
      rw [upd_ne (ne_of_none eb nC), upd_ne nb]
      exact eb
  · obtain ⟨c', ecv, hco⟩ := tAt pos cv hca
    subst ecv
    refine PySem.W.kla_makeFunctionHit (mg := X.mg) (c := c) (P := P) (ps := ps) (closure_ok hfr) I.ok.glob (I.mod.glob.keeps I.bk) hcode (TB.code.keeps I.bk) oP tOk hca bi ?_
    intro ctv g tk ext up
    have J : Inv X pins σ H { s with heap := g.push (PySem.W.kla_obj "<lambda>" (X.env.qual ++ "<lambda>") params body scope (cloFrom X.env.cells scope.names []) ((X.mg "__name__").getD .none) c' ctv), toks := tk } := I.kept fun b o e => Heap.get?_push_of_some _ (ext b o e)
    exact fin g.objs.size c' _ ctv H _ J (LamX.ExtN.refl H) hT (Heap.get?_push_size _ rfl) up (I.hok.fresh up) hco (fun b hb => .inl hb) fun b o eb _ => eb
end
/-- an object that is new since s is tracked, as it is -/
theorem pinNew {X : Cx} {pins : List (Addr × Obj)} {σ : L2.St} {H H1 : Hp} {s s' : Shared} {f : Addr} {o : Obj} (I : Inv X pins σ H s) (J : Inv X pins σ H1 s') (low : s.heap.objs.size ≤ f) (nf : H1 f = none) (ho : s'.heap.get? f = some o) : Inv X pins σ (upd H1 f (PinO f o)) s' := by
  have below : ∀ b u, s.heap.get? b = some u → b ≠ f := by
    intro b u e z
    rw [z] at e
    exact absurd (Nat.lt_of_lt_of_le (Heap.lt_size e) low) (Nat.lt_irrefl _)
  have below0 : ∀ b u, X.s_0.heap.get? b = some u → b ≠ f := by
    intro b u e z
    rw [z] at e
    exact absurd (Nat.lt_of_lt_of_le (Heap.lt_size e) (Nat.le_trans I.sz low)) (Nat.lt_irrefl _)
  have tr : ∀ b u, H1 b = some u → upd H1 f (PinO f o) b = some u := by
    intro b u e
    rw [upd_ne (ne_of_none e nf)]
    exact e
  obtain ⟨uk, us, uf, ut, u1, u2, u3⟩ := J.base
  refine ⟨J.ok, J.os, J.bare, ⟨uk, us, ?_, ut, fun b xs e => tr _ _ (u1 b xs e), fun b a u e => tr _ _ (u2 b a u e), ?_⟩, J.loc, J.cell, ?_, ?_, ?_, ?_, J.len⟩
  · intro b u e n hx
    rw [upd_ne (below0 b u e)]
    exact uf b u e n hx
  · intro b ps e
    obtain ⟨more, z⟩ := u3 b ps e
    exact ⟨more, tr _ _ z⟩
  · obtain ⟨m, ⟨ol, _, _, hl, _⟩, _⟩ := I.loc
    rw [upd_ne (below _ _ hl)]
    exact J.free
  · intro x c e
    obtain ⟨v, oc, hoc, _⟩ := I.cell x c e
    rw [upd_ne (below _ _ hoc)]
    exact J.freeC x c e
  · intro p hp
    obtain ⟨e0, _⟩ := I.pin p hp
    obtain ⟨e, n, r⟩ := J.pin p hp
    exact ⟨e, by rw [upd_ne (below _ _ e0)]; exact n, r⟩
  · intro b u e
    by_cases hb : b = f
    · subst hb
      rw [upd_same] at e; cases e
      exact pin_mk ho
    · rw [upd_ne hb] at e
      exact (J.hok b u e).stay (fun _ _ _ q => q) (fun d q => tr _ _ q) fun d xs q => tr _ _ q
/-- the addresses of the cells that S captures of a frame -/
def capC (X : Cx) (S : FnS) : List Addr := (cloFrom X.env.cells S.scope.names []).map (·.2)
/-- the lambda S as a value: new, its cells not yet pinned -/
def tLam (T : List (Addr × Str)) (S : FnS) (cs : List Addr) : TE := fun _ H Q => Tabs T H ∧ ∀ (f c' : Addr) (pm ctv : Value) (H1 : Hp), (∀ b o, H b = some o → b ∉ T.map (·.1) → H1 b = some o) → Tabs T H1 → H1 f = none → H f = none → f ≠ c' → H1 c' = some (CodeO c' S.q) → (∀ b, H b = none → H1 b = none ∨ b = c') →
  (∀ c ∈ cs, c ≠ f ∧ c ≠ c') → (cs.length = S.cap.length ∧ cs.Nodup) → Q (.ref f) (upd H1 f (PinO f (lamO S cs pm c' ctv)))
/-- S is the lambda that stands there in X's text -/
structure LamHere (X : Cx) (S : FnS) (params : Arguments) (body : Expr) (scope : Scope) : Prop where
  q : S.q = X.env.qual ++ "<lambda>"
  pa : S.params = params
  bo : S.body = body
  sc : S.scope = scope
  cap : S.cap = ((scope.names.filter fun y => y.2 == .free).map (·.1)).reverse
  fr : ∀ y ∈ scope.names, y.2 = .free → X.env.scope.names.lookup y.1 = some .cell ∨ X.env.scope.names.lookup y.1 = some .free
theorem cloFrom_eq (cells : List (Str × Addr)) : ∀ (ns : List (Str × NameKind)) (acc : List (Str × Addr)), cloFrom cells ns acc = (((ns.filter fun y => y.2 == .free).map fun y => (y.1, (cells.lookup y.1).getD 0)).reverse) ++ acc
  | [], acc => rfl
  | (n, k) :: r, acc => by
    show (if k == .free then cloFrom cells r ((n, (cells.lookup n).getD 0) :: acc) else cloFrom cells r acc) = _
    cases hk : (k == NameKind.free) with
    | true => rw [if_pos rfl, cloFrom_eq cells r, List.filter_cons_of_pos (by exact hk)]; simp
    | false => rw [if_neg Bool.false_ne_true, cloFrom_eq cells r, List.filter_cons_of_neg (by rw [hk]; exact Bool.false_ne_true)]
theorem clo_zip {X : Cx} {S : FnS} {params : Arguments} {body : Expr} {scope : Scope} (h : LamHere X S params body scope) : cloFrom X.env.cells scope.names [] = S.cap.zip (capC X S) ∧ (capC X S).length = S.cap.length ∧ ∀ (i : Nat) n, S.cap[i]? = some n → (capC X S)[i]? = some ((X.env.cells.lookup n).getD 0) := by
  have e1 : cloFrom X.env.cells scope.names [] = S.cap.map fun n => (n, (X.env.cells.lookup n).getD 0) := by
    rw [cloFrom_eq, List.append_nil, h.cap, List.map_reverse, List.map_map]; rfl
  have e2 : capC X S = S.cap.map fun n => (X.env.cells.lookup n).getD 0 := by
    unfold capC
    rw [h.sc, e1, List.map_map]; rfl
  refine ⟨?_, by rw [e2, List.length_map], fun i n hi => by rw [e2, List.getElem?_map, hi]; rfl⟩
  rw [e1, e2]
  generalize S.cap = l
  induction l with
  | nil => rfl
  | cons a l ih => simp only [List.map_cons, List.zip_cons_cons, ih]
section
variable {X : Cx} {T : List (Addr × Str)} {S : FnS} {c P : Addr} {params : Arguments} {body : Expr} {scope : Scope} {pos : Pos}
theorem LamHere.has (h : LamHere X S params body scope) (ok : X.Ok) : ∀ y ∈ scope.names, y.2 = .free → ∃ c, X.env.cells.lookup y.1 = some c := fun y hy e => by
  rcases h.fr y hy e with k | k
  · exact ok.has _ (.inl k)
  · exact ok.has _ (.inr k)
theorem LamHere.cell (h : LamHere X S params body scope) (ok : X.Ok) {d : Addr} (hd : d ∈ capC X S) : ∃ n, n ∈ S.cap ∧ X.env.cells.lookup n = some d := by
  obtain ⟨_, e2, e3⟩ := clo_zip h
  obtain ⟨i, hi, e⟩ := List.getElem_of_mem hd
  have hi' : i < S.cap.length := e2 ▸ hi
  have := e3 i S.cap[i] (by simp [hi'])
  have e4 : (capC X S)[i]? = some d := by rw [← e]; simp [hi]
  rw [e4] at this
  have hn : S.cap[i] ∈ S.cap := List.getElem_mem hi'
  have hn2 : S.cap[i] ∈ ((scope.names.filter fun y => y.2 == .free).map (·.1)).reverse := h.cap ▸ hn
  rw [List.mem_reverse, List.mem_map] at hn2
  obtain ⟨y, hy, ey⟩ := hn2
  have hy2 := List.mem_filter.mp hy
  obtain ⟨c0, hc0⟩ := h.has ok y hy2.1 (beq_iff_eq.mp hy2.2)
  rw [ey] at hc0
  rw [hc0] at this
  exact ⟨_, hn, by rw [hc0, Option.some.inj this]; rfl⟩
theorem LamHere.at' (h : LamHere X S params body scope) (ok : X.Ok) {i : Nat} {n : Str} (hn : S.cap[i]? = some n) : ∃ d, (capC X S)[i]? = some d ∧ X.env.cells.lookup n = some d := by
  obtain ⟨_, _, e3⟩ := clo_zip h
  have hm : n ∈ ((scope.names.filter fun y => y.2 == .free).map (·.1)).reverse := h.cap ▸ List.mem_of_getElem? hn
  rw [List.mem_reverse, List.mem_map] at hm
  obtain ⟨y, hy, ey⟩ := hm
  have hy2 := List.mem_filter.mp hy
  obtain ⟨c0, hc0⟩ := h.has ok y hy2.1 (beq_iff_eq.mp hy2.2)
  rw [ey] at hc0
  have := e3 i n hn
  rw [hc0] at this
  exact ⟨c0, this, hc0⟩
theorem LamHere.nodup (h : LamHere X S params body scope) (nd : S.cap.Nodup) (ok : X.Ok) : (capC X S).Nodup := by
  obtain ⟨_, e2, _⟩ := clo_zip h
  refine List.pairwise_iff_getElem.mpr fun i j hi hj hij e => ?_
  have hi' : i < S.cap.length := by omega
  have hj' : j < S.cap.length := by omega
  obtain ⟨d, d1, d2⟩ := h.at' ok (i := i) (n := S.cap[i]) (by simp [hi'])
  obtain ⟨d', d3, d4⟩ := h.at' ok (i := j) (n := S.cap[j]) (by simp [hj'])
  have e1 : (capC X S)[i]? = some (capC X S)[i] := by simp [hi]
  have e3 : (capC X S)[j]? = some (capC X S)[j] := by simp [hj]
  rw [e1] at d1
  rw [e3] at d3
  cases d1; cases d3
  rw [← e] at d4
  have := ok.inj _ _ _ d2 d4
  exact absurd ((List.getElem_inj nd).mp this) (by omega)
theorem pe_lam (h : LamHere X S params body scope) (TB : TabB X.base X.mg c P) (hcode : X.env.code = .ref c) (hm : (P, S.q) ∈ T) (hu : ∀ p ∈ T, p.1 = P → p.2 = S.q) (hdef : defaultsOf params X.env = ([], [])) (nd : S.cap.Nodup) :
    PE X (.Lambda params body scope pos) (tLam T S (capC X S)) := by
  refine ⟨fun pins s σ H Q I q => ?_⟩
  obtain ⟨hT, q⟩ := q
  obtain ⟨z1, z2, z3⟩ := clo_zip h
  refine lam_new (T := T) I TB hcode (h.q ▸ hm) (h.q ▸ hu) hT hdef (h.has I.ok) fun f c' pm ctv H1 s' J ex hT1 hf low nf hc nw kp => ?_
  have nef : f ≠ c' := by rintro rfl; rw [nf] at hc; cases hc
  have e : PySem.W.kla_obj "<lambda>" (X.env.qual ++ "<lambda>") params body scope (cloFrom X.env.cells scope.names []) pm c' ctv = lamO S (capC X S) pm c' ctv := by
    unfold lamO
    rw [z1, h.q, h.pa, h.bo, h.sc]
  rw [e] at hf
  have J2 := pinNew I J low nf hf
  have bel : ∀ b u, s.heap.get? b = some u → b ≠ f := by
    intro b u e z
    rw [z] at e
    exact absurd (Nat.lt_of_lt_of_le (Heap.lt_size e) low) (Nat.lt_irrefl _)
  have nH : H f = none := I.hok.fresh low
  refine ⟨.ref f, _, J2, rfl, q f c' pm ctv H1 (fun b o eb nb => kp b o eb fun z => nb (by rw [z]; exact List.mem_map.mpr ⟨_, hm, rfl⟩)) hT1 nf nH nef (by rw [h.q]; exact hc) (fun b hb => (nw b hb).imp id And.left) (fun d hd => ?_) ⟨z2, h.nodup nd I.ok⟩⟩
  obtain ⟨n, _, hn⟩ := h.cell I.ok hd
  obtain ⟨v, oc, hoc, hdc⟩ := I.cell n d hn
  refine ⟨bel _ _ hoc, fun z => ?_⟩
  have := J.freeC n d hn
  rw [z, hc] at this
  cases this
end
end GL
namespace GL
open PySem PySem.Spec PyProof.Rows L2 G
/-- H3 is H with the cells cs pinned, holding cvs -/
structure PinBy (H H3 : Hp) (cs : List Addr) (cvs : List V) : Prop where
  out : ∀ b, b ∉ cs → H3 b = H b
  none : ∀ b ∈ cs, H b = none
  at' : ∀ (i : Nat) c v, cs[i]? = some c → cvs[i]? = some v → ∃ o u, H3 c = some (PinO c o) ∧ o.data = .cell (some u) ∧ RelV v u
  pin : Pins H3 cs
/-- the frame's cells cs are those of the names ns, which stand at js -/
structure CapAt (X : Cx) (cs : List Addr) (ns : List Str) (js : List Nat) : Prop where
  len : cs.length = js.length
  ln : ns.length = js.length
  cell : ∀ (i : Nat) c, cs[i]? = some c → ∃ n, ns[i]? = some n ∧ X.env.cells.lookup n = some c
  kind : ∀ n ∈ ns, X.env.kindOf n = some .cell ∨ X.env.kindOf n = some .free
  slot : ∀ (i : Nat) n j, ns[i]? = some n → js[i]? = some j → X.N[j]? = some n
  vis : ∀ n ∈ ns, Vis X.env.scope n
  fn : ∀ n ∈ ns, X.fn n = true
theorem capAt_of {X : Cx} {S : FnS} {params : Arguments} {body : Expr} {scope : Scope} (h : LamHere X S params body scope) {js : List Nat} (lj : S.cap.length = js.length) (hk : ∀ n ∈ S.cap, X.env.scope.names.lookup n = some .cell) (hs : ∀ (i : Nat) n j, S.cap[i]? = some n → js[i]? = some j → X.N[j]? = some n) (hf : ∀ n, X.fn n = true) (ok : X.Ok) : CapAt X (capC X S) S.cap js := by
  obtain ⟨_, e2, _⟩ := clo_zip h
  refine ⟨e2.trans lj, lj, fun i c hc => ?_, fun n hn => .inl (hk n hn), hs, fun n hn => .inr (.inl (hk n hn)), fun n _ => hf n⟩
  have hi : i < S.cap.length := e2 ▸ (List.getElem?_eq_some_iff.mp hc).1
  obtain ⟨d, d1, d2⟩ := h.at' ok (i := i) (n := S.cap[i]) (by simp [hi])
  rw [hc] at d1; cases d1
  exact ⟨_, by simp [hi], d2⟩
section
variable {X : Cx} {CX : CXT} {k : Nat} {f C : Addr} {fd : FuncData} {ps : List Str} {sp : Sp} {dvs : List V} {ds : List Value} {E : XK} {x m : Str} {p pos apos : Pos} {e o : Expr} {es : List Expr} {ta : TE} {t : TA} {cs : List Addr} {js : List Nat} {ns : List Str}
theorem run_fnC {pins : List (Addr × Obj)} {σ : L2.St} {H : Hp} {s : Shared} {Q : VK} {us : List Value} {vs cvs : List V} (F : FnOk X.prog X.w X.K X.mg X.base CX k f fd ps sp) (hr : Room k X.A) (hb : L2.Binds X.K fd ps ds) (hd : Vals dvs ds)
    (hx : ∀ H3 e s', PinBy H H3 cs cvs → CX X.stack H3 s E e s' → X.xe e s') (cA : X.Ok → CapAt X cs ns js) (hcv : ∀ (i j : Nat), js[i]? = some j → ∃ v, σ[j]? = some (some v) ∧ cvs[i]? = some v) (hlv : cvs.length = js.length)
    (I : Inv X pins σ H s) (r : Vals vs us) (h : ∀ H3, PinBy H H3 cs cvs → sp (vs ++ dvs) H3 (fun v H' => (∀ c ∈ cs, H' c = H3 c) ∧ Q v (hideA H' cs)) E) : wpAny (model X.prog X.w) X.A (call (.ref f) us) (EP X pins σ Q) X.xe s := by
  classical
  have e0 := I.env0
  have ca := cA I.ok
  have at0 : ∀ c ∈ cs, ∃ (i : Nat) (v : V) (ob : Obj) (u : Value), cs[i]? = some c ∧ cvs[i]? = some v ∧ s.heap.get? c = some ob ∧ ob.data = .cell (some u) ∧ RelV v u ∧ H c = none ∧ X.base.get? c = none ∧ c ∉ frs X.stack := by
    intro c hc
    obtain ⟨i, hi, ec⟩ := List.getElem_of_mem hc
    have ci : cs[i]? = some c := by rw [← ec]; simp [hi]
    obtain ⟨n, hn, hcl⟩ := ca.cell i c ci
    have hj : i < js.length := ca.len ▸ hi
    have ji : js[i]? = some js[i] := by simp [hj]
    obtain ⟨v, hv, hv2⟩ := hcv i _ ji
    have hm : n ∈ ns := List.mem_of_getElem? hn
    obtain ⟨m, hns, hl⟩ := I.loc
    obtain ⟨u, rv, look⟩ := hl _ n v (ca.slot i n _ hn ji) hv (ca.vis n hm)
    rcases look with ⟨kl, _⟩ | ⟨_, c2, e2, ob, ho, hdo⟩
    · rcases ca.kind n hm with q | q <;> rw [kl] at q <;> cases q
    · rw [hcl] at e2; cases e2
      have low := I.ok.cab n c (ca.fn n hm) hcl
      refine ⟨i, v, ob, u, ci, hv2, ho, hdo, rv, I.freeC n c hcl, ?_, fun z => ?_⟩
      · cases q : X.base.get? c with
        | none => rfl
        | some w => exact absurd (Nat.lt_of_lt_of_le (Heap.lt_size q) (Nat.le_trans I.ok.bsz low)) (Nat.lt_irrefl _)
      · rcases List.mem_cons.mp (I.stkSub c z) with e1 | e1
        · exact I.cne n c hcl e1
        · obtain ⟨_, o2, ho2, _⟩ := I.ok.funs.mem e1
          exact absurd (Nat.lt_of_lt_of_le (Heap.lt_size ho2) low) (Nat.lt_irrefl _)
  obtain ⟨H3, hH3⟩ : ∃ H3 : Hp, H3 = fun b => if b ∈ cs then (s.heap.get? b).map (PinO b) else H b := ⟨_, rfl⟩
  have inn : ∀ c ob, c ∈ cs → s.heap.get? c = some ob → H3 c = some (PinO c ob) := by
    intro c ob hc ho
    rw [hH3]
    show (if c ∈ cs then (s.heap.get? c).map (PinO c) else H c) = _
    rw [if_pos hc, ho]; rfl
  have out : ∀ b, b ∉ cs → H3 b = H b := by
    intro b hb
    rw [hH3]
    exact if_neg hb
  have PB : PinBy H H3 cs cvs := by
    refine ⟨out, fun b hb => ?_, fun i c v h1 h2 => ?_, fun c hc => ?_⟩
    · obtain ⟨_, _, _, _, _, _, _, _, _, n, _⟩ := at0 b hb
      exact n
    · have hc := List.mem_of_getElem? h1
      obtain ⟨n, hn, hcl⟩ := ca.cell i c h1
      have hi : i < js.length := ca.len ▸ (List.getElem?_eq_some_iff.mp h1).1
      have ji : js[i]? = some js[i] := by simp [hi]
      obtain ⟨v', hv, hv2⟩ := hcv i _ ji
      rw [h2] at hv2; cases hv2
      have hm : n ∈ ns := List.mem_of_getElem? hn
      obtain ⟨m, hns, hl⟩ := I.loc
      obtain ⟨u, rv, look⟩ := hl _ n v (ca.slot i n _ hn ji) hv (ca.vis n hm)
      rcases look with ⟨kl, _⟩ | ⟨_, c2, e2, ob, ho, hdo⟩
      · rcases ca.kind n hm with q | q <;> rw [kl] at q <;> cases q
      · rw [hcl] at e2; cases e2
        exact ⟨ob, u, inn c ob hc ho, hdo, rv⟩
    · obtain ⟨_, _, ob, _, _, _, ho, _⟩ := at0 c hc
      exact ⟨ob, inn c ob hc ho⟩
  have tr : ∀ b u, H b = some u → H3 b = some u := by
    intro b u eb
    rw [out b (fun z => by rw [PB.none b z] at eb; cases eb)]
    exact eb
  have hok3 : HOk X.prog X.w H3 s.heap := by
    intro b u eb
    by_cases hb : b ∈ cs
    · obtain ⟨_, _, ob, _, _, _, ho, _⟩ := at0 b hb
      rw [inn b ob hb ho] at eb; cases eb
      exact pin_mk ho
    · rw [out b hb] at eb
      exact (I.hok b u eb).stay (fun _ _ _ q => q) (fun d q => tr _ _ q) fun d xs q => tr _ _ q
  have e3 : Env0 X.prog X.w X.K X.mg X.base X.A X.stack s H3 := by
    refine ⟨e0.frames, e0.mod, fun b ob eb => ⟨(e0.bs b ob eb).1, ?_⟩, e0.bsz, e0.funs, fun b hb => ?_, hok3, e0.bare⟩
    · rw [out b]
      · exact (e0.bs b ob eb).2
      · intro z
        obtain ⟨_, _, _, _, _, _, _, _, _, _, nb, _⟩ := at0 b z
        rw [nb] at eb; cases eb
    · rw [out b]
      · exact e0.frf b hb
      · intro z
        obtain ⟨_, _, _, _, _, _, _, _, _, _, _, nf⟩ := at0 b z
        exact nf hb
  have r2 : Vals (vs ++ dvs) (us ++ ds) := r.append hd
  have hl : (us ++ ds).length = ps.length := by
    rw [← r2.length]
    exact F.len _ _ _ _ (h H3 PB)
  refine wpAny_call (codeAny_mono (F.run X.A X.stack s H3 ⟨us, []⟩ (us ++ ds) (vs ++ dvs) _ E hr e3 (hb s us I.kIn hl) r2 (h H3 PB)) fun res s' hq => ?_)
  cases res with
  | error e => exact hx H3 e s' PB hq
  | ok fl =>
    cases fl with
    | next => exact False.elim hq
    | brk => exact False.elim hq
    | cont => exact False.elim hq
    | ret u =>
      obtain ⟨v, H', os, bare, un, hok, rv, hpin, q⟩ := hq
      have pn' : Pins H' cs := by
        intro c hc
        obtain ⟨ob, eo⟩ := PB.pin c hc
        exact ⟨ob, (hpin c hc).trans eo⟩
      have same : ∀ c ∈ cs, ∀ ob, s.heap.get? c = some ob → s'.heap.get? c = some ob := by
        intro c hc ob ho
        exact pin_ok (hok c _ ((hpin c hc).trans (inn c ob hc ho)))
      have un2 : Un (frs X.stack) [] H (hideA H' cs) s.heap s'.heap := by
        refine ⟨fun b ob eb n hf he => ?_, fun b ob eb n hf he => ?_, fun b ob eb n he => ?_, un.there, fun b xs eb => ?_, fun b ob w eb => ?_, fun b ps eb => ?_⟩
        · by_cases hb : b ∈ cs
          · exact same b hb ob eb
          · exact un.keep b ob eb (by rw [out b hb]; exact n) hf he
        · by_cases hb : b ∈ cs
          · exact ⟨ob.slots, same b hb ob eb⟩
          · exact un.slot b ob eb (by rw [out b hb]; exact n) hf he
        · by_cases hb : b ∈ cs
          · exact hideA_in hb
          · rw [hideA_out hb]
            exact un.free b ob eb (by rw [out b hb]; exact n) he
        · have nb : b ∉ cs := fun z => by rw [PB.none b z] at eb; cases eb
          rw [hideA_out nb]
          exact un.tups b xs (tr _ _ eb)
        · have nb : b ∉ cs := fun z => by rw [PB.none b z] at eb; cases eb
          rw [hideA_out nb]
          exact un.frzs b ob w (tr _ _ eb)
        · have nb : b ∉ cs := fun z => by rw [PB.none b z] at eb; cases eb
          rw [hideA_out nb]
          exact un.tbls b ps (tr _ _ eb)
      exact I.after ⟨v, hideA H' cs, os, bare, un2, hok_hide hok pn', rv, q⟩
/-- what a call with pinned cells asks -/
def tCallC (sp : Sp) (dvs : List V) (E : XK) (cs : List Addr) (js : List Nat) (t : TA) : TE := fun σ H Q => t σ H fun vs H1 => ∃ cvs, cvs.length = js.length ∧ (∀ (i j : Nat), js[i]? = some j → ∃ v, σ[j]? = some (some v) ∧ cvs[i]? = some v) ∧
  ∀ H3, PinBy H1 H3 cs cvs → sp (vs ++ dvs) H3 (fun v H' => (∀ c ∈ cs, H' c = H3 c) ∧ Q v (hideA H' cs)) E
theorem pe_callC (F : FnOk X.prog X.w X.K X.mg X.base L2.CX0 k f fd ps sp) (hr : Room k X.A) (hg : Gl X x) (hm : X.mg x = some (.ref f)) (hk : PySem.W.keepIn X.K (.ref f) = true) (hb : L2.Binds X.K fd ps ds) (hd : Vals dvs ds) (cA : X.Ok → CapAt X cs ns js)
    (ha : PA X (e :: es) t) (hdb : (x == ("__debug__" : Str)) = false := by decide) (he : starEach (e :: es) X.env = (false, eval e X.env) :: starEach es X.env := by rfl) (hpl : (backTo pos (starEach es X.env)).any (·.1) = false := by rfl) :
    PE X (.Call (.Name x p) (e :: es) [] pos) (tCallC sp dvs E cs js t) := by
  refine ⟨fun pins s σ H Q I h => ?_⟩
  refine wpAny_Call_Name_kw (ld_glob I hg hm ?_ hdb)
  refine PySem.W.callWith_K (h₀ := X.base) I.ok.mod.kin hk (thn (ha.run pos pins s σ H _ I h) fun us s1 ⟨vs, H1, I1, r, cvs, lv, hcv, q⟩ => ⟨I1.kIn, ?_⟩) he hpl
  exact run_fnC F hr hb hd (fun _ _ _ _ z => z.elim) cA hcv lv I1 r q
end
end GL
set_option Elab.async false
set_option linter.all false
set_option maxRecDepth 100000
set_option maxHeartbeats 4000000
/-! L3kc: lambdas over data: a slot that holds one is called; one is made and handed to a def; statements that know a def's tables. -/
namespace GL
open PySem PySem.Spec PyProof.Rows L2 G
open LamX (Tabs TabS TabB ExtN CodeO)
mutual
/-- no lambda and no error in it -/
def noX : D → Bool
  | .non => true | .bl _ => true | .int _ => true | .str _ => true
  | .lst xs => noXL xs | .tup xs => noXL xs | .obj _ ds => noXL ds | .scr _ => true | .exc _ _ _ x => noX x | .err _ _ => false | .er0 _ => false | .fn _ _ => false
  | .dic _ ds => noXL ds | .tupF xs => noXL xs | .ref _ => true | .tupT xs => noXL xs | .dicF _ ds => noXL ds | .dicT _ ds => noXL ds
def noXL : List D → Bool
  | [] => true
  | x :: xs => noX x && noXL xs
end
theorem noXL_at : ∀ {ds : List D} {i : Nat} {d : D}, noXL ds = true → ds[i]? = some d → noX d = true
  | [], _, _, _, h => by simp at h
  | x :: xs, 0, d, n, h => by
    have n' : (noX x && noXL xs) = true := n
    rw [Bool.and_eq_true] at n'
    cases h; exact n'.1
  | x :: xs, i + 1, d, n, h => by
    have n' : (noX x && noXL xs) = true := n
    rw [Bool.and_eq_true] at n'
    exact noXL_at n'.2 (by simpa using h)
theorem noXL_map {α : Type} {f : α → D} : ∀ {xs : List α}, (∀ x ∈ xs, noX (f x) = true) → noXL (xs.map f) = true
  | [], _ => rfl
  | x :: xs, h => by
    show (noX (f x) && noXL (xs.map f)) = true
    rw [h x (by simp), noXL_map fun y hy => h y (by simp [hy])]; rfl
/-- M without what p tells -/
noncomputable def hidP (M : Hp) (p : Addr → Prop) : Hp := by classical exact fun b => if p b then none else M b
theorem hidP_in {M : Hp} {p : Addr → Prop} {b : Addr} (h : p b) : hidP M p b = none := by unfold hidP; exact if_pos h
theorem hidP_out {M : Hp} {p : Addr → Prop} {b : Addr} (h : ¬ p b) : hidP M p b = M b := by unfold hidP; exact if_neg h
theorem hidP_some {M : Hp} {p : Addr → Prop} {b : Addr} {o : HO} (h : hidP M p b = some o) : ¬ p b ∧ M b = some o := by
  by_cases c : p b
  · rw [hidP_in c] at h; cases h
  · exact ⟨c, by rw [hidP_out c] at h; exact h⟩
theorem hideA_P (M : Hp) (cs : List Addr) : hideA M cs = hidP M (· ∈ cs) := by
  funext b
  by_cases c : b ∈ cs
  · rw [hideA_in c, hidP_in c]
  · rw [hideA_out c, hidP_out c]
section
variable {Z : Wd} {M M' H H' : Hp} {B : Bas} {W : List (Nat × Addr)} {σ : L2.St} {δ : List S}
/-- what is hidden are pinned things and code objects -/
def ExtP (M : Hp) (p : Addr → Prop) : Prop := ∀ b o, p b → M b = some o → ∃ φ, o = .ext φ
theorem ExtP.keep {p : Addr → Prop} (hp : ExtP M p) {b : Addr} {o : HO} (h : M b = some o) (n : ∀ φ, o ≠ .ext φ) : hidP M p b = some o := by
  rw [hidP_out]
  · exact h
  · intro c
    obtain ⟨φ, e⟩ := hp b o c h
    exact n φ e
theorem rd_hid {p : Addr → Prop} (hp : ExtP M p) {b : Addr} {u : HO} (n : ∀ φ, u ≠ .ext φ) (h : Rd M b u) : Rd (hidP M p) b u := by
  rcases h with h | ⟨o, h⟩
  · exact .inl (hp.keep h n)
  · exact .inr ⟨o, hp.keep h fun φ e => nomatch e⟩
theorem At.hid {p : Addr → Prop} (hp : ExtP M p) {v : V} {d : D} (h : At Z M v d) : noX d = true → At Z (hidP M p) v d := by
  induction h with
  | non => exact fun _ => .non
  | bl => exact fun _ => .bl
  | int => exact fun _ => .int
  | str => exact fun _ => .str
  | lst h l _ ih => exact fun n => .lst (hp.keep h fun φ e => nomatch e) l fun i v d h1 h2 => ih i v d h1 h2 (noXL_at n h2)
  | tup h l _ ih => exact fun n => .tup (h.imp (rd_hid hp fun φ e => nomatch e) id) l fun i v d h1 h2 => ih i v d h1 h2 (noXL_at n h2)
  | obj h l l2 _ ih => exact fun n => .obj (hp.keep h fun φ e => nomatch e) l l2 fun i v d h1 h2 => ih i v d h1 h2 (noXL_at n h2)
  | scr h => exact fun n => .scr (h.imp (rd_hid hp fun φ e => nomatch e) id)
  | exc h _ ih => exact fun n => .exc (hp.keep h fun φ e => nomatch e) (ih n)
  | err h1 h2 _ ih => exact fun n => nomatch n
  | er0 h => exact fun n => nomatch n
  | fn => exact fun n => nomatch n
  | dic h k l _ ih => exact fun n => .dic (hp.keep h fun φ e => nomatch e) k l fun i v d h1 h2 => ih i v d h1 h2 (noXL_at n h2)
  | tupF h c k l _ ih => exact fun n => .tupF (hp.keep h fun φ e => nomatch e) c k l fun i v d h1 h2 => ih i v d h1 h2 (noXL_at n h2)
  | ref => exact fun _ => .ref
  | tupT h l _ ih => exact fun n => .tupT (hp.keep h fun φ e => nomatch e) l fun i v d h1 h2 => ih i v d h1 h2 (noXL_at n h2)
  | dicF h k l _ ih => exact fun n => .dicF (hp.keep h fun φ e => nomatch e) k l fun i v d h1 h2 => ih i v d h1 h2 (noXL_at n h2)
  | dicT h k l _ ih => exact fun n => .dicT (hp.keep h fun φ e => nomatch e) k l fun i v d h1 h2 => ih i v d h1 h2 (noXL_at n h2)
theorem AtL.hid {p : Addr → Prop} (hp : ExtP M p) {vs : List V} {ds : List D} (h : AtL Z M vs ds) (n : noXL ds = true) : AtL Z (hidP M p) vs ds := ⟨h.len, fun i v d a b => At.hid hp (h.at' i v d a b) (noXL_at n b)⟩
theorem LamAt.mono {S : FnS} {f c' : Addr} {cs : List Addr} {pm ctv : Value} {cvs : List V} (e : Ex M H) (h : LamAt M S f c' cs pm ctv cvs) : LamAt H S f c' cs pm ctv cvs :=
  ⟨e _ _ h.f, e _ _ h.c, h.lc, h.lv, h.nd, fun i c v a b => let ⟨o, u, q, r⟩ := h.at' i c v a b; ⟨o, u, e _ _ q, r⟩⟩
theorem At.lam {v : V} {k : Nat} {ds : List D} (h : At Z M v (.fn k ds)) : ∃ f S c' cs pm ctv cvs, v = .ref f ∧ Z.fn k = some S ∧ LamAt M S f c' cs pm ctv cvs ∧ AtL Z M cvs ds := by
  cases h with
  | fn h1 h2 h3 h4 h5 h6 l k => exact ⟨_, _, _, _, _, _, _, rfl, h1, ⟨h2, h3, h4.1, h5, h4.2, h6⟩, l, k⟩
theorem LamAt.at {S : FnS} {f c' : Addr} {cs : List Addr} {pm ctv : Value} {cvs : List V} {k : Nat} {ds : List D} (h : LamAt M S f c' cs pm ctv cvs) (e : Z.fn k = some S) (a : AtL Z M cvs ds) : At Z M (.ref f) (.fn k ds) :=
  .fn e h.f h.c ⟨h.lc, h.nd⟩ h.lv h.at' a.len a.at'
variable {ts : TA} {Ψ : S → List S → Prop}
/-- a call of what slot i holds, a lambda -/
theorem xr_callV {F : FR} {E : XK} {i k : Nat} {S : FnS} (hS : Z.fn k = some S) (hv : ∃ cds, δ[i]? = some (.d (.fn k cds)))
    (h : XA Z ts δ fun ds δ1 => ∃ cds, δ1[i]? = some (.d (.fn k cds)) ∧ noXL ds = true ∧ noXL cds = true ∧ F (ds ++ cds) fun s => Ψ s δ1) : XR Z (tCallV S i (spR Z F) E ts) δ Ψ := fun B W M H σ Q I q => by
  obtain ⟨cds0, hy⟩ := hv
  obtain ⟨o, e, v, rfl, at0⟩ := I.sl i _ hy
  obtain ⟨f, S', c', cs, pm, ctv, cvs, rfl, e1, L, _⟩ := At.lam at0
  rw [hS] at e1; cases e1
  refine ⟨f, e, ⟨c', cs, pm, ctv, cvs, L.mono I.ex⟩, h B W M H σ _ I fun M1 H1 δ1 vs ds h1 ex1 I1 al => ?_⟩
  obtain ⟨cds, hy1, nx, nc, hF⟩ := h1
  obtain ⟨o1, e1, v1, rfl, at1⟩ := I1.sl i _ hy1
  rw [e] at e1; cases e1
  obtain ⟨f1, S1, c1, cs1, pm1, ctv1, cvs1, ef, eS, L1, alc⟩ := At.lam at1
  cases ef
  rw [hS] at eS; cases eS
  have hp : ExtP M1 (· ∈ cs1) := by
    intro b o hb eb
    obtain ⟨ob, z⟩ := L1.pins b hb
    rw [z] at eb; cases eb
    exact ⟨_, rfl⟩
  have c1in : ∀ b ∈ cs1, ∃ o, M1 b = some o := fun b hb => let ⟨ob, z⟩ := L1.pins b hb; ⟨_, z⟩
  refine ⟨c1, cs1, pm1, ctv1, cvs1, L1.mono I1.ex, hideA M1 cs1, ds ++ cds, _, ?_, ?_, hF, ?_⟩
  · intro b u eb
    obtain ⟨n, eb⟩ := hideA_some eb
    rw [hideA_out n]
    exact I1.ex _ _ eb
  · rw [hideA_P]
    exact (AtL.hid hp al nx).app (AtL.hid hp alc nc)
  · intro M' H' v s hs a1 a2 a3 a4 r hno
    have exM : Ex M' (showA M' M1 cs1) := by
      intro b u eb
      have nb : b ∉ cs1 := fun hb => by
        have := a2 _ _ eb
        rw [hno b hb] at this; cases this
      rw [showA_out nb]
      exact eb
    have b1 : Ex M1 (showA M' M1 cs1) := by
      intro b u eb
      by_cases hb : b ∈ cs1
      · rw [showA_in hb]; exact eb
      · rw [showA_out hb]; exact a1 _ _ (by rw [hideA_out hb]; exact eb)
    have b2 : Ex (showA M' M1 cs1) (showA H' H1 cs1) := by
      intro b u eb
      by_cases hb : b ∈ cs1
      · rw [showA_in hb] at eb ⊢; exact I1.ex _ _ eb
      · rw [showA_out hb] at eb ⊢; exact a2 _ _ eb
    have b3 : Ex H1 (showA H' H1 cs1) := by
      intro b u eb
      by_cases hb : b ∈ cs1
      · rw [showA_in hb]; exact eb
      · rw [showA_out hb]; exact a3 _ _ (by rw [hideA_out hb]; exact eb)
    have b4 : ∀ p o, H1 p = some o → M1 p = none → NT o → showA M' M1 cs1 p = none := by
      intro b u eb em nt
      by_cases hb : b ∈ cs1
      · rw [showA_in hb]; exact em
      · rw [showA_out hb]; exact a4 b u (by rw [hideA_out hb]; exact eb) (by rw [hideA_out hb]; exact em) nt
    have n1 : ∀ b, hideA H1 cs1 b = none → b ∉ cs1 → H1 b = none := by
      intro b eb hb
      rw [hideA_out hb] at eb; exact eb
    have n2 : ∀ b u, H' b = some u → b ∉ cs1 := by
      intro b u eb hb
      rw [hno b hb] at eb; cases eb
    refine q (showA M' M1 cs1) (showA H' H1 cs1) δ1 v s hs (ex1.tr b1) (I1.after b1 b2 b3 b4) (ret_res I1 (fun _ _ o => o) ?_)
    cases s with
    | no => exact r
    | d x => exact r.mono exM
    | own y =>
      obtain ⟨p, ho, e, a, b, c, d⟩ := r
      have np := n2 p _ a
      exact ⟨p, ho, e, by rw [showA_out np]; exact a, b.mono exM, by rw [showA_out np]; exact c, n1 p d np⟩
    | deal qd csd nd =>
      obtain ⟨p, e, a, b⟩ := r
      obtain ⟨p', e', c1, c2, c3, c4, c5⟩ := a
      subst e
      cases e'
      have np := n2 _ _ c1
      have nq := n2 _ _ c2
      refine ⟨p, rfl, ⟨p, rfl, by rw [showA_out np]; exact c1, by rw [showA_out nq]; exact c2, by rw [showA_out np]; exact c3, by rw [showA_out nq]; exact c4, c5⟩, fun x hx => ?_⟩
      have hx' := b x hx
      rcases hx with rfl | rfl
      · exact n1 _ hx' np
      · exact n1 _ hx' nq
/-- an expression's body over data (a lambda's) -/
theorem entE {te : TE} {N : List Str} {vs : List V} {Q : VK} {n : Nat} {ds : List D} {Φ : S → Prop} (ex : Ex M H) (al : AtL Z M vs ds) (hn : N.length = ds.length + n)
    (q : ∀ M' H' v s, Φ s → Ex M M' → Ex M' H' → Ex H H' → (∀ p o, H p = some o → M p = none → NT o → M' p = none) → RetOk Z ⟨H, M⟩ M' H' v s → Q v H')
    (hx : XR Z te (ds.map .d ++ List.replicate n .no) fun s _ => Φ s) : te (L2.start N vs) H Q :=
  entR (ts := tRet te) (n := n) ex al hn q (fun B W M0 H0 σ E hb I e => hx B W M0 H0 σ _ I fun M' H' δ' v s f e1 I' r => e.rt M' H' σ δ' v s f e1 I' (by
    cases s with
    | no => exact r
    | d x => exact r
    | own y => obtain ⟨p, ho, a, b, c, d, e, _⟩ := r; exact ⟨p, ho, a, b, c, d, e⟩
    | deal qd cs n => obtain ⟨p, a, b, c⟩ := r; exact ⟨p, a, b, fun x hx => (c x hx).1⟩))
end
end GL
set_option Elab.async false
set_option linter.all false
set_option maxRecDepth 100000
set_option maxHeartbeats 4000000
/-! L3kd: a def that makes lambdas: its statements, with what is known of its tables of code objects. -/
namespace GL
open PySem PySem.Spec PyProof.Rows L2 G
open LamX (Tabs TabS TabB ExtN CodeO)
section
variable {Z : Wd} {M M' H H' : Hp} {B : Bas} {W : List (Nat × Addr)} {σ σ' : L2.St} {δ δ' : List S} {T : List (Addr × Str)}
/-- the tables T as H tells them; M knows nothing of them -/
structure TbI (T : List (Addr × Str)) (M H : Hp) : Prop where
  tab : Tabs T H
  no : ∀ p ∈ T, M p.1 = none
/-- the base knows nothing of the tables -/
def NoB (T : List (Addr × Str)) (B : Bas) : Prop := ∀ p ∈ T, B.h p.1 = none
/-- tables and code objects -/
def Ft (H : Hp) (a : Addr) : Prop := (∃ ps, H a = some (.tbl ps)) ∨ ∃ q, H a = some (CodeO a q)
noncomputable def Rb (B : Bas) (M H : Hp) : Bas := by classical exact ⟨fun a => if Ft H a then H a else B.h a, fun a => if Ft H a then M a else B.m a⟩
theorem Rb.h_in {a : Addr} (f : Ft H a) : (Rb B M H).h a = H a := by unfold Rb; exact if_pos f
theorem Rb.h_out {a : Addr} (f : ¬ Ft H a) : (Rb B M H).h a = B.h a := by unfold Rb; exact if_neg f
theorem Rb.m_in {a : Addr} (f : Ft H a) : (Rb B M H).m a = M a := by unfold Rb; exact if_pos f
theorem Rb.m_out {a : Addr} (f : ¬ Ft H a) : (Rb B M H).m a = B.m a := by unfold Rb; exact if_neg f
theorem odat_tbl {ho : HO} {y : OD} (h : ODAt Z M ho y) : (∀ ps, ho ≠ .tbl ps) ∧ ∀ φ, ho ≠ .ext φ := by
  cases ho <;> cases y <;> first | exact h.elim | exact ⟨fun _ e => (nomatch e), fun _ e => (nomatch e)⟩
theorem own_kind (I : I3 Z B W M H σ δ) {i : Nat} {p : Addr} (h : Own σ δ i p) : ∃ ho, H p = some ho ∧ (∀ ps, ho ≠ .tbl ps) ∧ ∀ φ, ho ≠ .ext φ := by
  obtain ⟨p0, s, h1, h2, h3⟩ := h
  obtain ⟨o, e, k⟩ := I.sl i _ h2
  rw [h1] at e; cases e
  cases s with
  | no => exact h3.elim
  | d x => exact h3.elim
  | own y =>
    obtain ⟨q, ho, e2, e3, e4, e5⟩ := k
    cases e2; cases h3
    exact ⟨ho, e3, odat_tbl e4⟩
  | deal q cs n =>
    obtain ⟨p1, e2, e3, e4, e5, e6, _⟩ := k
    cases e2
    rcases h3 with rfl | rfl
    · exact ⟨_, e3, fun _ e => (nomatch e), fun _ e => (nomatch e)⟩
    · exact ⟨_, e4, fun _ e => (nomatch e), fun _ e => (nomatch e)⟩
theorem own_ft (I : I3 Z B W M H σ δ) {i : Nat} {p : Addr} (h : Own σ δ i p) : ¬ Ft H p := by
  obtain ⟨ho, e, n1, n2⟩ := own_kind I h
  rintro (⟨ps, f⟩ | ⟨q, f⟩)
  · rw [e] at f; cases f; exact n1 _ rfl
  · rw [e] at f; cases f; exact n2 _ rfl
theorem rb_in (I : I3 Z B W M H σ δ) : I3 Z (Rb B M H) W M H σ δ := by
  refine ⟨I.ex, fun a o e n t => ?_, fun a o e n => ?_, I.len, I.sl, I.bor, fun i p o => ?_, I.dis⟩
  · by_cases f : Ft H a
    · rw [Rb.m_in f] at n; exact n
    · rw [Rb.h_out f] at e; rw [Rb.m_out f] at n
      exact I.mg a o e n t
  · by_cases f : Ft H a
    · rw [Rb.h_in f] at e; exact e
    · rw [Rb.h_out f] at e
      exact I.keep a o e n
  · rw [Rb.h_out (own_ft I o)]
    exact I.own i p o
theorem rb_none {p : Addr} (I : I3 Z B W M H σ δ) (h : (Rb B M H).h p = none) : B.h p = none := by
  by_cases f : Ft H p
  · rw [Rb.h_in f] at h
    rcases f with ⟨ps, f⟩ | ⟨q, f⟩ <;> rw [h] at f <;> cases f
  · rw [Rb.h_out f] at h; exact h
theorem rb_out (I : I3 Z B W M H σ δ) (J : I3 Z (Rb B M H) W M' H' σ' δ') : I3 Z B W M' H' σ' δ' := by
  refine ⟨J.ex, fun a o e n t => ?_, fun a o e n => ?_, J.len, J.sl, J.bor, fun i p o => ?_, J.dis⟩
  · by_cases f : Ft H a
    · have m0 := I.mg a o e n t
      cases q : H a with
      | none => rw [I.fresh q] at e; cases e
      | some u => exact J.mg a u (by rw [Rb.h_in f]; exact q) (by rw [Rb.m_in f]; exact m0) (I.nt e t q)
    · exact J.mg a o (by rw [Rb.h_out f]; exact e) (by rw [Rb.m_out f]; exact n) t
  · by_cases f : Ft H a
    · exact J.keep a o (by rw [Rb.h_in f]; exact I.keep a o e n) n
    · exact J.keep a o (by rw [Rb.h_out f]; exact e) n
  · exact (J.own i p o).imp id (rb_none I)
theorem rb_tab (I : I3 Z B W M H σ δ) (t : TbI T M H) (J : I3 Z (Rb B M H) W M' H' σ' δ') : TbI T M' H' := by
  have nw : ∀ a, Ft H a → ∀ i, (i, a) ∉ W := fun a f i w => own_ft I (I.bor i a w) f
  have kp : ∀ a o, Ft H a → H a = some o → H' a = some o := fun a o f e => J.keep a o (by rw [Rb.h_in f]; exact e) (nw a f)
  refine ⟨fun p hp => ?_, fun p hp => ?_⟩
  · obtain ⟨ps, h1, h2, h3⟩ := t.tab p hp
    refine ⟨ps, kp _ _ (.inl ⟨ps, h1⟩) h1, h2, fun pos cv hc => ?_⟩
    obtain ⟨c, e1, e2⟩ := h3 pos cv hc
    exact ⟨c, e1, kp _ _ (.inr ⟨_, e2⟩) e2⟩
  · obtain ⟨ps, h1, _, _⟩ := t.tab p hp
    have f : Ft H p.1 := .inl ⟨ps, h1⟩
    exact J.mg p.1 (.tbl ps) (by rw [Rb.h_in f]; exact h1) (by rw [Rb.m_in f]; exact t.no p hp) fun vs e => nomatch e
theorem rb_res {v : V} {s : S} (I : I3 Z B W M H σ δ) (r : ResOk Z (Rb B M H) M' H' σ' δ' v s) : ResOk Z B M' H' σ' δ' v s := by
  cases s with
  | no => exact r
  | d x => exact r
  | own y => obtain ⟨p, ho, a, b, c, d, e, f⟩ := r; exact ⟨p, ho, a, b, c, d, rb_none I e, f⟩
  | deal q cs n => obtain ⟨p, a, b, c⟩ := r; exact ⟨p, a, b, fun x hx => ⟨rb_none I (c x hx).1, (c x hx).2⟩⟩
theorem rb_ret {v : V} {s : S} (I : I3 Z B W M H σ δ) (r : RetOk Z (Rb B M H) M' H' v s) : RetOk Z B M' H' v s := by
  cases s with
  | no => exact r
  | d x => exact r
  | own y => obtain ⟨p, ho, a, b, c, d, e⟩ := r; exact ⟨p, ho, a, b, c, d, rb_none I e⟩
  | deal q cs n => obtain ⟨p, a, b, c⟩ := r; exact ⟨p, a, b, fun x hx => rb_none I (c x hx)⟩
/-! ### judgements that know the tables -/
def XRT (T : List (Addr × Str)) (Z : Wd) (te : TE) (δ : List S) (Φ : S → List S → Prop) : Prop :=
  ∀ B W M H σ (Q : VK), NoB T B → TbI T M H → I3 Z B W M H σ δ → (∀ M' H' δ' v s, Φ s δ' → Ex M M' → I3 Z B W M' H' σ δ' → TbI T M' H' → ResOk Z B M' H' σ δ' v s → Q v H') → te σ H Q
theorem XR.toT {te : TE} {Φ : S → List S → Prop} (h : XR Z te δ Φ) : XRT T Z te δ Φ := fun B W M H σ Q _ t I q =>
  h (Rb B M H) W M H σ Q (rb_in I) fun M' H' δ' v s f e J r => q M' H' δ' v s f e (rb_out I J) (rb_tab I t J) (rb_res I r)
structure EndsT (T : List (Addr × Str)) (Z : Wd) (B : Bas) (W : List (Nat × Addr)) (M : Hp) (P : Po) (E : Ends) : Prop where
  nx : ∀ M' H' σ' δ', P.N δ' → Ex M M' → I3 Z B W M' H' σ' δ' → TbI T M' H' → E.nx σ' H'
  rt : ∀ M' H' σ' δ' v s, P.R s δ' → Ex M M' → I3 Z B W M' H' σ' δ' → TbI T M' H' → RetOk Z B M' H' v s → E.rt v H'
  bk : ∀ M' H' σ' δ', P.B δ' → Ex M M' → I3 Z B W M' H' σ' δ' → TbI T M' H' → E.bk σ' H'
  ct : ∀ M' H' σ' δ', P.C δ' → Ex M M' → I3 Z B W M' H' σ' δ' → TbI T M' H' → E.ct σ' H'
theorem EndsT.mono {P : Po} {E : Ends} (e : Ex M M') (h : EndsT T Z B W M P E) : EndsT T Z B W M' P E :=
  ⟨fun _ _ _ _ p x => h.nx _ _ _ _ p (e.tr x), fun _ _ _ _ _ _ p x => h.rt _ _ _ _ _ _ p (e.tr x), fun _ _ _ _ p x => h.bk _ _ _ _ p (e.tr x), fun _ _ _ _ p x => h.ct _ _ _ _ p (e.tr x)⟩
/-- no wish of errors -/
def NoErr (P : Po) : Prop := ∀ B W M, P.X B W M
def XST (T : List (Addr × Str)) (Z : Wd) (bs : List Nat) (ts : TS) (δ : List S) (P : Po) : Prop :=
  ∀ B W M H σ E, W.map (·.1) = bs → NoB T B → TbI T M H → I3 Z B W M H σ δ → EndsT T Z B W M P E → ts E σ H
variable {bs vs : List Nat} {P : Po} {ts s1 s2 : TS} {te : TE}
theorem XS.toT (hx : NoErr P) (h : XS Z bs ts δ P) : XST T Z bs ts δ P := fun B W M H σ E hb _ t I e =>
  h (Rb B M H) W M H σ E hb (rb_in I) ⟨fun M' H' σ' δ' p x J => e.nx M' H' σ' δ' p x (rb_out I J) (rb_tab I t J), fun M' H' σ' δ' v s p x J r => e.rt M' H' σ' δ' v s p x (rb_out I J) (rb_tab I t J) (rb_ret I r),
    fun M' H' σ' δ' p x J => e.bk M' H' σ' δ' p x (rb_out I J) (rb_tab I t J), fun M' H' σ' δ' p x J => e.ct M' H' σ' δ' p x (rb_out I J) (rb_tab I t J), fun M' _ => hx _ _ _⟩
theorem xst_seq (h : XST T Z bs s1 δ { P with N := fun δ' => XST T Z bs s2 δ' P }) : XST T Z bs (tSeq s1 s2) δ P := fun B W M H σ E hb nb t I e =>
  h B W M H σ _ hb nb t I ⟨fun M' H' σ' δ' p x I' t' => p B W M' H' σ' E hb nb t' I' (e.mono x), e.rt, e.bk, e.ct⟩
/-- a first statement without lambdas -/
theorem xst_s (hx : NoErr P) (h : XS Z bs s1 δ { P with N := fun δ' => XST T Z bs s2 δ' P }) : XST T Z bs (tSeq s1 s2) δ P := xst_seq (XS.toT hx h)
theorem xst_set {i : Nat} (hi : i ∉ bs) (h : XRT T Z te δ (onD fun d δ' => P.N (δ'.set i (.d d)))) : XST T Z bs (tAsg te (gName i)) δ P := fun B W M H σ E hb nb t I e =>
  h B W M H σ _ nb t I fun M1 H1 δ1 x s f e1 I1 t1 r => by
    cases s with
    | d d => exact e.nx _ _ _ _ f e1 (I1.put (not_bor hb hi) (hol_d _) (slotD r)) t1
    | _ => exact False.elim f
theorem xst_for {g : TG} {tb : TS} {wi : TI} (hx : NoErr P) (h : XI Z wi δ fun xs δ0 => ∃ J : Nat → List S → Prop, J 0 δ0 ∧
      (∀ i d δ1, xs[i]? = some d → J i δ1 → XG Z vs bs g d δ1 fun δ2 => XST T Z bs tb δ2 { N := J (i + 1), R := P.R, B := P.N, C := J (i + 1) }) ∧ ∀ δ1, J xs.length δ1 → P.N δ1) : XST T Z bs (tFor wi g tb) δ P := fun B W M H σ E hb nb t I e =>
  h (Rb B M H) W M H σ _ (rb_in I) fun M' H' δ' J xs f e1 J1 wd => by
    have I1 := rb_out I J1
    have t1 := rb_tab I t J1
    obtain ⟨Jv, j0, js, jn⟩ := f
    refine for_it wd.walk (fun i σ H => ∃ M'' δ'', Ex M' M'' ∧ I3 Z B W M'' H σ δ'' ∧ TbI T M'' H ∧ Jv i δ'') ⟨M', δ', Ex.rfl', I1, t1, j0⟩ (fun i σ H _ ⟨M'', _, a, b, _⟩ => a.tr b.ex) (fun i x σ1 H1 H2 hi ⟨M'', δ'', a, b, tt, c⟩ y => ?_) (fun σ1 H1 ⟨M'', δ'', a, b, tt, c⟩ => e.nx _ _ _ _ (jn _ c) (e1.tr a) b tt)
    obtain ⟨d, M2, hd, e2, I2, at2, _⟩ := y.use a (rb_in b)
    have I2' := rb_out b I2
    have t2 := rb_tab b tt I2
    refine js i d δ'' hd c (Rb B M2 H2) W M2 H2 σ1 x _ hb (rb_in I2') at2 fun M3 H3 σ3 δ3 h3 e3 I3' _ _ => ?_
    have I3'' := rb_out I2' I3'
    have t3 := rb_tab I2' t2 I3'
    have e4 : Ex M M3 := e1.tr (a.tr (e2.tr e3))
    refine h3 B W M3 H3 σ3 _ hb nb t3 I3'' ⟨fun M4 H4 σ4 δ4 p q I4 t4 => ⟨M4, δ4, a.tr (e2.tr (e3.tr q)), I4, t4, p⟩, fun _ _ _ _ _ _ p q => e.rt _ _ _ _ _ _ p (e4.tr q), fun _ _ _ _ p q => e.nx _ _ _ _ p (e4.tr q), fun M4 H4 σ4 δ4 p q I4 t4 => ⟨M4, δ4, a.tr (e2.tr (e3.tr q)), I4, t4, p⟩⟩
end
end GL
set_option Elab.async false
set_option linter.all false
set_option maxRecDepth 100000
set_option maxHeartbeats 4000000
/-! L3ke: a lambda is made and handed to a def; a def that makes lambdas, from its entry. -/
namespace GL
open PySem PySem.Spec PyProof.Rows L2 G
open LamX (Tabs TabS TabB ExtN CodeO)
section
variable {Z : Wd} {M M' H H' : Hp} {B : Bas} {W : List (Nat × Addr)} {σ σ' : L2.St} {δ δ' : List S} {T : List (Addr × Str)}
/-- behind a call that may have changed the tables -/
theorem I3.afterT (I : I3 Z B W M H σ δ) (nb : NoB T B) (t : TbI T M H) (e1 : Ex M M') (e2 : Ex M' H') (e3 : ∀ a o, H a = some o → a ∉ T.map (·.1) → H' a = some o) (e4 : ∀ p o, H p = some o → M p = none → NT o → M' p = none) : I3 Z B W M' H' σ δ := by
  have nT : ∀ {i p}, Own σ δ i p → p ∉ T.map (·.1) := fun {i p} o z => by
    obtain ⟨q, hq, e⟩ := List.mem_map.mp z
    obtain ⟨ps, h1, _, _⟩ := t.tab q hq
    exact own_ft I o (.inl ⟨ps, by rw [← e]; exact h1⟩)
  refine ⟨e2, fun a o e n => ?_, fun a o e n => e3 _ _ (I.keep a o e n) fun z => ?_, I.len, fun i s e => ?_, I.bor, I.own, I.dis⟩
  · cases q : H a with
    | none => rw [I.fresh q] at e; cases e
    | some u => exact fun t => e4 a u q (I.mg a o e n t) (I.nt e t q)
  · obtain ⟨q, hq, e'⟩ := List.mem_map.mp z
    rw [← e', nb q hq] at e; cases e
  · obtain ⟨v, c, d⟩ := I.sl i s e
    refine ⟨v, c, ?_⟩
    cases s with
    | no => trivial
    | d x => obtain ⟨u, f, g⟩ := d; exact ⟨u, f, g.mono e1⟩
    | own z =>
      obtain ⟨q, hq, f, g, k, l⟩ := d
      subst f
      exact ⟨q, hq, rfl, e3 _ _ g (nT (Own.mk c e)), k.mono e1, e4 _ _ g l (.own k)⟩
    | deal q cs n =>
      obtain ⟨r, f, g, k, l, m, o⟩ := d
      subst f
      exact ⟨r, rfl, e3 _ _ g (nT ⟨r, _, c, e, .inl rfl⟩), e3 _ _ k (nT ⟨r, _, c, e, .inr rfl⟩), e4 _ _ g l (fun _ e => nomatch e), e4 _ _ k m (fun _ e => nomatch e), o⟩
/-- the values at some slots, as data -/
theorem slots_at (I : I3 Z B W M H σ δ) : ∀ (js : List Nat) (cds : List D), cds.length = js.length → (∀ (i j : Nat), js[i]? = some j → ∃ d, δ[j]? = some (.d d) ∧ cds[i]? = some d) →
    ∃ cvs, cvs.length = js.length ∧ (∀ (i j : Nat), js[i]? = some j → ∃ v, σ[j]? = some (some v) ∧ cvs[i]? = some v) ∧ AtL Z M cvs cds
  | [], cds, l, _ => ⟨[], rfl, fun i j h => by simp at h, by rw [List.length_eq_zero_iff.mp l]; exact .nil⟩
  | j :: js, [], l, _ => by simp at l
  | j :: js, d :: cds, l, h => by
    obtain ⟨d0, h1, h2⟩ := h 0 j rfl
    cases h2
    obtain ⟨o, e, v, rfl, a⟩ := I.sl j _ h1
    obtain ⟨cvs, l2, h3, al⟩ := slots_at I js cds (by simpa using l) fun i k hk => h (i + 1) k (by simpa using hk)
    exact ⟨v :: cvs, by simp [l2], fun i k hk => by
      cases i with
      | zero => cases hk; exact ⟨v, e, rfl⟩
      | succ i => exact h3 i k (by simpa using hk), .cons a al⟩
variable {te : TE} {Ψ : S → List S → Prop}
/-- no lambda and no error comes back -/
def noXS : S → Bool
  | .d x => noX x
  | _ => false
/-- f(e, lambda ..): the lambda k captures what stands at js -/
theorem xrt_callLam {F : FR} {E : XK} {cs : List Addr} {js : List Nat} {k : Nat} {S : FnS} (hS : Z.fn k = some S) (hj : S.cap.length = js.length)
    (h : XRT T Z te δ (onD fun d1 δ1 => ∃ cds, cds.length = js.length ∧ (∀ (i j : Nat), js[i]? = some j → ∃ d, δ1[j]? = some (.d d) ∧ cds[i]? = some d) ∧ F [d1, .fn k cds] fun s => noXS s = true ∧ Ψ s δ1)) :
    XRT T Z (tCallC (spR Z F) [] E cs js (tCons te (tCons (tLam T S cs) tNil))) δ Ψ := fun B W M H σ Q nb t I q =>
  h B W M H σ _ nb t I fun M1 H1 δ1 x s f ex1 I1 t1 r => by
    cases s with
    | d d1 =>
      obtain ⟨cds, lcd, hcd, hF⟩ := f
      obtain ⟨cvs, lcv, hcv, al⟩ := slots_at I1 js cds lcd hcd
      have atx : At Z M1 x d1 := r
      refine ⟨t1.tab, fun f c' pm ctv H2 kp tb2 nf nf1 nfc hco nw apart hc => ⟨cvs, lcv, hcv, fun H3 pb => ?_⟩⟩
      have cfree : ∀ b ∈ cs, H1 b = none ∧ b ≠ f ∧ b ≠ c' := fun b hb => by
        obtain ⟨a1, a2⟩ := apart b hb
        have n := pb.none b hb
        rw [upd_ne a1] at n
        refine ⟨?_, a1, a2⟩
        cases e : H1 b with
        | none => rfl
        | some u =>
          by_cases hT : b ∈ T.map (·.1)
          · obtain ⟨p, hp, ep⟩ := List.mem_map.mp hT
            obtain ⟨ps, z, _⟩ := tb2 p hp
            rw [ep, n] at z; cases z
          · rw [kp b u e hT] at n; cases n
      have h3f : H3 f = some (PinO f (lamO S cs pm c' ctv)) := by
        rw [pb.out f (fun z => (cfree f z).2.1 rfl), upd_same]
      have h3c : H3 c' = some (CodeO c' S.q) := by
        rw [pb.out c' (fun z => (cfree c' z).2.2 rfl), upd_ne (Ne.symm nfc)]; exact hco
      have h31 : ∀ b u, H1 b = some u → b ∉ T.map (·.1) → H3 b = some u := fun b u e hb => by
        have n1 : b ∉ cs := fun z => by rw [(cfree b z).1] at e; cases e
        have n2 : b ≠ f := ne_of_none e nf1
        rw [pb.out b n1, upd_ne n2]
        exact kp b u e hb
      -- what the callee knows
      obtain ⟨Mc, hMc⟩ : ∃ Mc : Hp, Mc = fun b => if b = f ∨ b = c' ∨ b ∈ cs then H3 b else M1 b := ⟨_, rfl⟩
      have mcin : ∀ b, (b = f ∨ b = c' ∨ b ∈ cs) → Mc b = H3 b := fun b hb => by rw [hMc]; exact if_pos hb
      have mcout : ∀ b, ¬ (b = f ∨ b = c' ∨ b ∈ cs) → Mc b = M1 b := fun b hb => by rw [hMc]; exact if_neg hb
      have m1T : ∀ b u, M1 b = some u → b ∉ T.map (·.1) := fun b u e z => by
        obtain ⟨p, hp, ep⟩ := List.mem_map.mp z
        rw [← ep, t1.no p hp] at e; cases e
      have ex3 : ∀ b u, M1 b = some u → H3 b = some u := fun b u e => h31 b u (I1.ex _ _ e) (m1T b u e)
      have exc : Ex M1 Mc := fun b u e => by
        by_cases hb : b = f ∨ b = c' ∨ b ∈ cs
        · rw [mcin b hb]; exact ex3 b u e
        · rw [mcout b hb]; exact e
      have exh : Ex Mc H3 := fun b u e => by
        by_cases hb : b = f ∨ b = c' ∨ b ∈ cs
        · rw [mcin b hb] at e; exact e
        · rw [mcout b hb] at e; exact ex3 b u e
      have L : LamAt Mc S f c' cs pm ctv cvs := by
        refine ⟨by rw [mcin f (.inl rfl)]; exact h3f, by rw [mcin c' (.inr (.inl rfl))]; exact h3c, hc.1, by rw [lcv, ← hj]; exact hc.1, hc.2, fun i c v a b => ?_⟩
        obtain ⟨o, u, z, rr⟩ := pb.at' i c v a b
        exact ⟨o, u, by rw [mcin c (.inr (.inr (List.mem_of_getElem? a)))]; exact z, rr⟩
      have hid : ∀ b, (b = f ∨ b = c' ∨ b ∈ cs) → ∃ φ, Mc b = some (.ext φ) := fun b hb => by
        rcases hb with e | e | e
        · subst e; exact ⟨_, L.f⟩
        · subst e; exact ⟨_, L.c⟩
        · obtain ⟨o, z⟩ := L.pins b e
          exact ⟨_, z⟩
      refine ⟨Mc, [d1, .fn k cds], _, exh, ?_, hF, fun M' H' v s ⟨nx, hs⟩ a1 a2 a3 a4 r' => ⟨fun c hc => ?_, ?_⟩⟩
      · exact .cons (atx.mono exc) (.cons (L.at hS (al.mono exc)) .nil)
      · obtain ⟨o, z⟩ := pb.pin c hc
        rw [a3 c _ z, z]
      · -- what is known behind: all but the lambda's things
        have pd : ∀ b, Decidable ((b = f ∨ b = c' ∨ b ∈ cs) ∧ M1 b = none) := fun b => Classical.propDecidable _
        let p : Addr → Prop := fun b => (b = f ∨ b = c' ∨ b ∈ cs) ∧ M1 b = none
        have ep : ExtP M' p := fun b o hb e => by
          obtain ⟨φ, z⟩ := hid b hb.1
          rw [a1 b _ z] at e; cases e
          exact ⟨φ, rfl⟩
        have b1 : Ex M1 (hidP M' p) := fun b u e => by
          rw [hidP_out (fun z => by rw [z.2] at e; cases e)]
          exact a1 _ _ (exc _ _ e)
        have b2 : Ex (hidP M' p) (hideA H' cs) := fun b u e => by
          obtain ⟨np, e⟩ := hidP_some e
          rw [hideA_out (fun z => np ⟨.inr (.inr z), by
            cases q : M1 b with
            | none => rfl
            | some w => have := I1.ex _ _ q; rw [(cfree b z).1] at this; cases this⟩)]
          exact a2 _ _ e
        have b3 : ∀ b o, H1 b = some o → b ∉ T.map (·.1) → hideA H' cs b = some o := fun b o e hb => by
          rw [hideA_out (fun z => by rw [(cfree b z).1] at e; cases e)]
          exact a3 _ _ (h31 b o e hb)
        have b4 : ∀ b o, H1 b = some o → M1 b = none → NT o → hidP M' p b = none := fun b o e em nt => by
          by_cases hp : b = f ∨ b = c' ∨ b ∈ cs
          · exact hidP_in ⟨hp, em⟩
          · rw [hidP_out (fun z => hp z.1)]
            by_cases hT : b ∈ T.map (·.1)
            · obtain ⟨w, hw, ew⟩ := List.mem_map.mp hT
              obtain ⟨ps, z, _⟩ := tb2 w hw
              rw [ew] at z
              have z3 : H3 b = some (.tbl ps) := by
                rw [pb.out b (fun c => hp (.inr (.inr c))), upd_ne (fun c => hp (.inl c))]; exact z
              exact a4 b _ z3 (by rw [mcout b hp]; exact em) fun vs c => nomatch c
            · exact a4 b o (h31 b o e hT) (by rw [mcout b hp]; exact em) nt
        have I4 := I3.afterT I1 nb t1 b1 b2 b3 b4
        have kT : ∀ b u, H2 b = some u → hideA H' cs b = some u := fun b u e => by
          have n1 : b ∉ cs := fun z => by
            have n := pb.none b z
            rw [upd_ne (cfree b z).2.1] at n
            rw [n] at e; cases e
          have n2 : b ≠ f := ne_of_none e nf
          rw [hideA_out n1]
          exact a3 b u (by rw [pb.out b n1, upd_ne n2]; exact e)
        have t4 : TbI T (hidP M' p) (hideA H' cs) := by
          refine ⟨fun w hw => ?_, fun w hw => ?_⟩
          · obtain ⟨ps, z1, z2, z3⟩ := tb2 w hw
            refine ⟨ps, kT _ _ z1, z2, fun pos cv hcv => ?_⟩
            obtain ⟨c0, e1, e2⟩ := z3 pos cv hcv
            exact ⟨c0, e1, kT _ _ e2⟩
          · obtain ⟨ps, z1, _, _⟩ := t1.tab w hw
            exact b4 w.1 _ z1 (t1.no w hw) fun vs c => nomatch c
        cases s with
        | d y =>
          exact q _ _ δ1 v (.d y) hs (ex1.tr b1) I4 t4 (At.hid ep r' nx)
        | no => exact (nomatch nx)
        | own y => exact (nomatch nx)
        | deal _ _ _ => exact (nomatch nx)
    | _ => exact False.elim f
/-! ### the law's own promise -/
/-- a def that makes lambdas and answers True (the law) -/
def spLawT (Z : Wd) (T : List (Addr × Str)) : Sp := fun vs H Q _ => ∃ (p : Addr) (ns : List Int), vs = [.ref p] ∧ SqL Z.K H p (ns.map V.int) ∧ ns.length ≤ 63 ∧ Tabs T H ∧ (∀ w ∈ T, w.1 ≠ p) ∧ ∀ H', Q (.bl true) H'
theorem entT {ts : TS} {N : List Str} {p : Addr} {ns : List Int} {Q : VK} {n : Nat} (sq : SqL Z.K H p (ns.map V.int)) (tb : Tabs T H) (ne : ∀ w ∈ T, w.1 ≠ p) (hn : N.length = 1 + n) (fin : ∀ H', Q (.bl true) H')
    (hx : XST T Z [] ts (.d (.scr ns) :: List.replicate n .no) { N := fun _ => False, R := fun s _ => s = .d (.bl true) }) : ts { nx := fun _ H' => Q .non H', rt := Q } (L2.start N [.ref p]) H := by
  classical
  let M : Hp := fun b => if b = p then H b else none
  have hM : ∀ b u, M b = some u → H b = some u := fun b u e => by
    by_cases c : b = p
    · have e' : (if b = p then H b else none) = some u := e
      rw [if_pos c] at e'; exact e'
    · have e' : (if b = p then H b else none) = some u := e
      rw [if_neg c] at e'; cases e'
  have hsq : SqL Z.K M p (ns.map V.int) := by
    rcases sq with (z | ⟨o, z⟩) | z
    · exact .inl (.inl ((if_pos rfl).trans z))
    · exact .inl (.inr ⟨o, (if_pos rfl).trans z⟩)
    · exact .inr z
  let B : Bas := ⟨fun b => if b ∈ T.map (·.1) then none else H b, M⟩
  have hB : ∀ b u, B.h b = some u → H b = some u ∧ b ∉ T.map (·.1) := fun b u e => by
    by_cases c : b ∈ T.map (·.1)
    · have e' : (if b ∈ T.map (·.1) then none else H b) = some u := e
      rw [if_pos c] at e'; cases e'
    · have e' : (if b ∈ T.map (·.1) then none else H b) = some u := e
      rw [if_neg c] at e'; exact ⟨e', c⟩
  have noOwn : ∀ i q, ¬ Own (L2.start N [.ref p]) (S.d (.scr ns) :: List.replicate n S.no) i q := fun i q ⟨r, s, _, e, c⟩ => by
    cases i with
    | zero => cases e; exact c
    | succ i =>
      rw [List.getElem?_cons_succ, List.getElem?_replicate] at e
      split at e
      · cases e; exact c
      · cases e
  have I : I3 Z B [] M H (L2.start N [.ref p]) (S.d (.scr ns) :: List.replicate n S.no) := by
    refine ⟨hM, fun a o e m _ => m, fun a o e _ => (hB a o e).1, ?_, fun i s e => ?_, fun i q w => by simp at w, fun i q o => absurd o (noOwn i q), fun i j q o => absurd o (noOwn i q)⟩
    · unfold L2.start; simp; omega
    · cases i with
      | zero => cases e; exact ⟨some (.ref p), rfl, _, rfl, .scr hsq⟩
      | succ i =>
        rw [List.getElem?_cons_succ, List.getElem?_replicate] at e
        split at e
        · rename_i hi
          cases e
          refine ⟨none, ?_, trivial⟩
          unfold L2.start
          rw [List.getElem?_append_right (by simp), List.getElem?_replicate, if_pos (by simp; omega)]
        · cases e
  refine hx B [] M H _ _ rfl (fun w hw => if_pos (List.mem_map_of_mem hw)) ⟨tb, fun w hw => if_neg (ne w hw)⟩ I ⟨fun _ _ _ _ f => f.elim, fun M' H' σ' δ' v s f e J _ r => ?_, fun _ _ _ _ f => f.elim, fun _ _ _ _ f => f.elim⟩
  subst f
  cases r
  exact fin H'
end
end GL
set_option Elab.async false
set_option linter.all false
set_option maxRecDepth 100000
set_option maxHeartbeats 4000000
/-! L3kf: where a lambda stands in the text; a def whose code object is known; the end of a law with tables. -/
namespace GL
open PySem PySem.Spec PyProof.Rows L2 G
open LamX (Tabs TabS TabB ExtN CodeO)
def noE : Expr := .Constant .none 0 ⟨0, 0, 0, 0⟩
def sSub : Stmt → List Stmt
  | .For _ _ b _ _ => b
  | .If _ b _ _ => b
  | .While _ b _ _ => b
  | .Try b _ _ _ _ => b
  | _ => []
def sAt (l : List Stmt) (i : Nat) : Stmt := l.getD i (.Pass ⟨0, 0, 0, 0⟩)
def sVal : Stmt → Expr
  | .Assign _ v _ => v
  | .Return (some v) _ => v
  | .If c _ _ _ => c
  | .Expr v _ => v
  | _ => noE
def eArg : Expr → Nat → Expr
  | .Call _ a _ _, i => a.getD i noE
  | .BoolOp _ a _, i => a.getD i noE
  | .List a _, i => a.getD i noE
  | _, _ => noE
def noA : Arguments := { posonlyargs := [], args := [], vararg := none, kwonlyargs := [], kw_defaults := [], kwarg := none, defaults := [] }
def lamA : Expr → Arguments
  | .Lambda a _ _ _ => a
  | _ => noA
def lamB : Expr → Expr
  | .Lambda _ b _ _ => b
  | _ => noE
def lamC : Expr → Scope
  | .Lambda _ _ s _ => s
  | _ => { kind := .function, names := [], isGenerator := false, isCoroutine := false }
theorem slots_by {N cap : List Str} {js : List Nat} (h : ((cap.zip js).all fun p => decide (N[p.2]? = some p.1)) = true) : ∀ (i : Nat) n j, cap[i]? = some n → js[i]? = some j → N[j]? = some n := fun i n j h1 h2 => by
  rw [List.all_eq_true] at h
  have : (cap.zip js)[i]? = some (n, j) := by rw [List.getElem?_zip_eq_some]; exact ⟨h1, h2⟩
  exact of_decide_eq_true (h _ (List.mem_of_getElem? this))
theorem cells_by {cap : List Str} {sc : Scope} (h : (cap.all fun n => decide (sc.names.lookup n = some .cell)) = true) : ∀ n ∈ cap, sc.names.lookup n = some .cell := fun n hn => of_decide_eq_true (List.all_eq_true.mp h n hn)
/-- a lambda's promise over data -/
theorem lam_ofR {P : Program} {w : World} {K : PySem.W.Frag} {mg : Str → Option Value} {base : Heap} {k : Nat} {S : FnS} {Z : Wd} {F : FR} (L : LamP S) (len : ∀ ds Φ, F ds Φ → ds.length = S.ps.length + S.cap.length)
    (hbody : ∀ (A : Around) (outer : List Env) (s : Shared) (H : Hp) (E : XK) (f c' : Addr) (cs : List Addr), Room k (A.deeper (lEnv S cs s.heap.objs.size f c')) →
      ∃ t, PE (lCx L2.CX0 P w K mg base S cs f c' A outer s H E).nox S.body t ∧ ∀ ds Φ, F ds Φ → XR Z t (ds.map .d) fun s _ => Φ s) : LamOk P w K mg base L2.CX0 (k + 1) S (spR Z F) := by
  refine lam_of L (fun vs H Q E h => ?_) fun A outer s H vs Q E f c' cs hr h => ?_
  · obtain ⟨M, ds, Φ, _, al, hF, _⟩ := h
    rw [al.len]; exact len _ _ hF
  · obtain ⟨M, ds, Φ, ex, al, hF, q⟩ := h
    obtain ⟨t, h1, h2⟩ := hbody A outer s H E f c' cs hr
    refine ⟨t, h1.nox, entE (n := 0) ex al (by rw [len _ _ hF, List.length_append]; rfl) q ?_⟩
    rw [List.replicate_zero, List.append_nil]
    exact h2 _ _ hF
/-- a def whose code object is known -/
theorem fun_okC {P : Program} {w : World} {K : PySem.W.Frag} {mg : Str → Option Value} {base : Heap} {x qual : Str} {st : Stmt} {f cA : Addr} {fd : FuncData} {N ps : List Str} {k : Nat} {sp : Sp} (F : L2.Fun K x qual st f fd) (hc : fd.code = .ref cA) (S : FnScope N ps (defScope st)) (len : ∀ vs H Q E, sp vs H Q E → vs.length = ps.length)
    (hbody : ∀ (A : Around) (outer : List Env) (s : Shared) (H : Hp) (vs : List V) (Q : VK) (E : XK), Room k (A.deeper (envOfC qual (defScope st) s.heap.objs.size f (.ref cA))) → sp vs H Q E →
      ∃ t, PSs (cxOf L2.CX0 P w K mg base N qual (defScope st) f (.ref cA) A outer s H E).nox (defBody st) t ∧ t { nx := fun _ H' => Q .non H', rt := Q } (L2.start N vs) H) : FnOk P w K mg base L2.CX0 (k + 1) f fd ps sp := by
  obtain ⟨oc, od, kV, doc, pm, an, cdv, ct, osl, rfl, lk, hcd⟩ := F.ex
  have e : cdv = .ref cA := hc
  subst e
  refine fn_of lk hcd S len fun A outer s H vs Q E hr hsp => ?_
  obtain ⟨t, h, q⟩ := hbody A outer s H vs Q E hr hsp
  exact ⟨t, h.nox, q⟩
/-- the end of a law that makes lambdas: cs, its code objects and their tables, with the lambdas' names -/
theorem walkT {l : PySem.W.OpenLaw} {k : Nat} {q : Program} {loose : List Str} {XP : (Str → Option Value) → Heap → Prop} {YP : World → Heap → Prop} {d : DefRec} {K : Params → PySem.W.Frag} (hn : l.most = some 63) (hdf : d.params.defaults = []) (hr : Room k callerA)
    (hY : ∀ (w : World) (h : Heap), YP w h → (K w.params).In h)
    (F : ∀ (w : World) (mg : Str → Option Value) (fa : Addr) (h : Heap), YP w h → (K w.params).In h → h.Ns mainGlobals mg → mg d.name = some (.ref fa) →
      ∃ (fd : FuncData) (Z : Wd) (cs : List (Addr × Addr)) (qs : List Str), Z.K = K w.params ∧ cs.length = qs.length ∧ (∀ p ∈ cs, h.get? p.2 = some { cls := .none, data := .fields #[] }) ∧ (∀ p ∈ cs, (K w.params).lookup p.2 = none) ∧ (∀ p ∈ cs, PySem.W.codeHdIn (K w.params) p.1 p.2 = true) ∧
        (∀ (s : Shared) (u : Value), BindsTo s fd ⟨[u], []⟩ [("_law_script", u)]) ∧
        ∀ base : Heap, (K w.params).In base → base.Ns mainGlobals mg → (∀ p ∈ cs, TabB base mg p.1 p.2) → FnOk l.prog w (K w.params) mg base L2.CX0 k fa fd ["_law_script"] (spLawT Z ((cs.map (·.2)).zip qs))) :
    PySem.W.WalkO q loose XP YP l.row.toRowW d [] (fun f vs => PySem.call f vs) := by
  refine LamX.walk_ofTs (n := 63) (k := k) (K := K) (CX := fun _ => L2.CX0) (x := "_law_script") hn (by decide) hdf hr hY (fun w mg fa h Y KX G hmg => ?_) fun _ _ _ _ _ z => z
  obtain ⟨fd, Z, cs, qs, hZ, hl, h1, h2, h3, hb, hF⟩ := F w mg fa h Y KX G hmg
  refine ⟨fd, cs, spLawT Z ((cs.map (·.2)).zip qs), h1, h2, fun p hp => PySem.W.codeHd_of_K KX (h3 p hp), hb, fun H p ns hl _ hH hS => ⟨p, ns, rfl, hZ ▸ hS, hl, fun w hw => ?_, fun w hw e => ?_, fun _ => rfl⟩, hF⟩
  · have := List.of_mem_zip hw
    obtain ⟨c, hc, e⟩ := List.mem_map.mp this.1
    refine LamX.TabS.nil ?_
    rw [← e]; exact hH c hc
  · have := List.of_mem_zip hw
    obtain ⟨c, hc, e2⟩ := List.mem_map.mp this.1
    have ht := hH c hc
    rw [e2, e] at ht
    rcases hS with (z | ⟨o, z⟩) | ⟨o, its, n, z, _⟩
    · rw [ht] at z; cases z
    · rw [ht] at z; cases z
    · have := h2 c hc
      rw [e2, e, z] at this; cases this
end GL
set_option Elab.async false
set_option linter.all false
set_option maxRecDepth 100000
set_option maxHeartbeats 4000000
namespace GK
open PySem L2 G
def top (i : Nat) : Stmt := PySem.Challenge.pw_leavelots_k39_trees.main.body.getD i (.Pass ⟨0, 0, 0, 0⟩)
abbrev s_is_int : Stmt := (top 3)
abbrev s_is_index : Stmt := (top 4)
abbrev s_is_name : Stmt := (top 5)
abbrev N_is_name : List Str := ["value", "letter"]
theorem sc_is_name : FnScope N_is_name ["value"] (defScope s_is_name) := ⟨rfl, rfl, rfl, by decide +kernel, rfl, by decide +kernel, by decide +kernel⟩
abbrev s_is_sequence : Stmt := (top 6)
abbrev N_is_sequence : List Str := ["value"]
theorem sc_is_sequence : FnScope N_is_sequence ["value"] (defScope s_is_sequence) := ⟨rfl, rfl, rfl, by decide +kernel, rfl, by decide +kernel, by decide +kernel⟩
abbrev s_are_names : Stmt := (top 7)
abbrev N_are_names : List Str := ["value", "thing"]
theorem sc_are_names : FnScope N_are_names ["value"] (defScope s_are_names) := ⟨rfl, rfl, rfl, by decide +kernel, rfl, by decide +kernel, by decide +kernel⟩
abbrev s_are_unlike : Stmt := (top 8)
abbrev N_are_unlike : List Str := ["value"]
theorem sc_are_unlike : FnScope N_are_unlike ["value"] (defScope s_are_unlike) := ⟨rfl, rfl, rfl, by decide +kernel, rfl, by decide +kernel, by decide +kernel⟩
abbrev s_lot_of : Stmt := (top 9)
abbrev N_lot_of : List Str := ["names"]
theorem sc_lot_of : FnScope N_lot_of ["names"] (defScope s_lot_of) := ⟨rfl, rfl, rfl, by decide +kernel, rfl, by decide +kernel, by decide +kernel⟩
abbrev s_bits_of : Stmt := (top 10)
abbrev N_bits_of : List Str := ["names", "some", "name"]
theorem sc_bits_of : FnScope N_bits_of ["names", "some"] (defScope s_bits_of) := ⟨rfl, rfl, rfl, by decide +kernel, rfl, by decide +kernel, by decide +kernel⟩
abbrev s_names_of : Stmt := (top 11)
abbrev N_names_of : List Str := ["names", "bits", "at", "name"]
theorem sc_names_of : FnScope N_names_of ["names", "bits"] (defScope s_names_of) := ⟨rfl, rfl, rfl, by decide +kernel, rfl, by decide +kernel, by decide +kernel⟩
abbrev s_InvalidRule_init : Stmt := (inClass (top 14) 0)
abbrev N_InvalidRule_init : List Str := ["self", "word"]
theorem sc_InvalidRule_init : FnScope N_InvalidRule_init ["self", "word"] (defScope s_InvalidRule_init) := ⟨rfl, rfl, rfl, by decide +kernel, rfl, by decide +kernel, by decide +kernel⟩
abbrev s_InvalidDrawing_init : Stmt := (inClass (top 18) 0)
abbrev N_InvalidDrawing_init : List Str := ["self", "at"]
theorem sc_InvalidDrawing_init : FnScope N_InvalidDrawing_init ["self", "at"] (defScope s_InvalidDrawing_init) := ⟨rfl, rfl, rfl, by decide +kernel, rfl, by decide +kernel, by decide +kernel⟩
abbrev s_may : Stmt := (top 21)
abbrev N_may : List Str := ["room", "gone", "rule"]
theorem sc_may : FnScope N_may ["room", "gone"] (defScope s_may) := ⟨rfl, rfl, rfl, by decide +kernel, rfl, by decide +kernel, by decide +kernel⟩
abbrev s_is_fulfilled : Stmt := (top 22)
abbrev N_is_fulfilled : List Str := ["rule", "gone", "name"]
theorem sc_is_fulfilled : FnScope N_is_fulfilled ["rule", "gone"] (defScope s_is_fulfilled) := ⟨rfl, rfl, rfl, by decide +kernel, rfl, by decide +kernel, by decide +kernel⟩
abbrev s_lots : Stmt := (top 23)
abbrev N_lots : List Str := ["room", "bits"]
theorem sc_lots : FnScope N_lots ["room"] (defScope s_lots) := ⟨rfl, rfl, rfl, by decide +kernel, rfl, by decide +kernel, by decide +kernel⟩
abbrev s_lots_after : Stmt := (top 24)
abbrev N_lots_after : List Str := ["room", "rules", "after", "level", "gone", "rule", "one", "wanted", "lot", "bits"]
theorem sc_lots_after : FnScope N_lots_after ["room"] (defScope s_lots_after) := ⟨rfl, rfl, rfl, by decide +kernel, rfl, by decide +kernel, by decide +kernel⟩
abbrev s_others : Stmt := (top 25)
abbrev N_others : List Str := ["room", "names", "name"]
theorem sc_others : FnScope N_others ["room", "names"] (defScope s_others) := ⟨rfl, rfl, rfl, by decide +kernel, rfl, by decide +kernel, by decide +kernel⟩
abbrev s_leavers : Stmt := (top 26)
abbrev N_leavers : List Str := ["room", "staying", "gone", "order", "free", "name"]
theorem sc_leavers : FnScope N_leavers ["room", "staying", "gone"] (defScope s_leavers) := ⟨rfl, rfl, rfl, by decide +kernel, rfl, by decide +kernel, by decide +kernel⟩
abbrev s_stuck : Stmt := (top 27)
abbrev N_stuck : List Str := ["room"]
theorem sc_stuck : FnScope N_stuck ["room"] (defScope s_stuck) := ⟨rfl, rfl, rfl, by decide +kernel, rfl, by decide +kernel, by decide +kernel⟩
abbrev s_hull : Stmt := (top 28)
abbrev N_hull : List Str := ["room", "staying", "name"]
theorem sc_hull : FnScope N_hull ["room", "staying"] (defScope s_hull) := ⟨rfl, rfl, rfl, by decide +kernel, rfl, by decide +kernel, by decide +kernel⟩
abbrev s_Rule_init : Stmt := (inClass (top 30) 0)
abbrev N_Rule_init : List Str := ["self", "name", "gone"]
theorem sc_Rule_init : FnScope N_Rule_init ["self", "name", "gone"] (defScope s_Rule_init) := ⟨rfl, rfl, rfl, by decide +kernel, rfl, by decide +kernel, by decide +kernel⟩
abbrev s_Rule_eq : Stmt := (inClass (top 30) 1)
abbrev s_Rule_str : Stmt := (inClass (top 30) 2)
abbrev s_read_rule : Stmt := (top 31)
abbrev s_Room_init : Stmt := (inClass (top 33) 0)
abbrev N_Room_init : List Str := ["self", "rules", "at", "rule", "name"]
theorem sc_Room_init : FnScope N_Room_init ["self", "rules"] (defScope s_Room_init) := ⟨rfl, rfl, rfl, by decide +kernel, rfl, by decide +kernel, by decide +kernel⟩
abbrev s_Room_read : Stmt := (inClass (top 33) 1)
abbrev s_Room_without : Stmt := (inClass (top 33) 2)
abbrev s_Room_len : Stmt := (inClass (top 33) 3)
abbrev s_Room_getitem : Stmt := (inClass (top 33) 4)
abbrev s_Room_add : Stmt := (inClass (top 33) 6)
abbrev s_Room_eq : Stmt := (inClass (top 33) 7)
abbrev s_Room_str : Stmt := (inClass (top 33) 8)
abbrev s_least_meeting : Stmt := (top 35)
abbrev N_least_meeting : List Str := ["parts", "found", "part", "meeting", "wider", "lot", "one"]
theorem sc_least_meeting : FnScope N_least_meeting ["parts"] (defScope s_least_meeting) := ⟨rfl, rfl, rfl, by decide +kernel, rfl, by decide +kernel, by decide +kernel⟩
abbrev s_ones_of : Stmt := (top 36)
abbrev N_ones_of : List Str := ["bits", "at"]
theorem sc_ones_of : FnScope N_ones_of ["bits"] (defScope s_ones_of) := ⟨rfl, rfl, rfl, by decide +kernel, rfl, by decide +kernel, by decide +kernel⟩
abbrev s_has_one_of : Stmt := (top 37)
abbrev N_has_one_of : List Str := ["bits", "lots", "lot"]
theorem sc_has_one_of : FnScope N_has_one_of ["bits", "lots"] (defScope s_has_one_of) := ⟨rfl, rfl, rfl, by decide +kernel, rfl, by decide +kernel, by decide +kernel⟩
abbrev s_tree : Stmt := (top 39)
abbrev N_tree : List Str := ["edges", "at"]
theorem sc_tree : FnScope N_tree ["edges"] (defScope s_tree) := ⟨rfl, rfl, rfl, by decide +kernel, rfl, by decide +kernel, by decide +kernel⟩
abbrev s_taken_down : Stmt := (top 40)
abbrev N_taken_down : List Str := ["edges", "names", "edge", "name"]
theorem sc_taken_down : FnScope N_taken_down ["edges"] (defScope s_taken_down) := ⟨rfl, rfl, rfl, by decide +kernel, rfl, by decide +kernel, by decide +kernel⟩
abbrev s_check_edges : Stmt := (top 41)
abbrev N_check_edges : List Str := ["edges", "at", "edge"]
theorem sc_check_edges : FnScope N_check_edges ["edges"] (defScope s_check_edges) := ⟨rfl, rfl, rfl, by decide +kernel, rfl, by decide +kernel, by decide +kernel⟩
abbrev s_is_tuple_of : Stmt := (top 42)
abbrev N_is_tuple_of : List Str := ["value", "many"]
theorem sc_is_tuple_of : FnScope N_is_tuple_of ["value", "many"] (defScope s_is_tuple_of) := ⟨rfl, rfl, rfl, by decide +kernel, rfl, by decide +kernel, by decide +kernel⟩
abbrev s_ring_at : Stmt := (top 43)
abbrev N_ring_at : List Str := ["edges", "marks", "at", "one", "other", "kept", "lost", "edge", "name", "mark"]
theorem sc_ring_at : FnScope N_ring_at ["edges"] (defScope s_ring_at) := ⟨rfl, rfl, rfl, by decide +kernel, rfl, by decide +kernel, by decide +kernel⟩
abbrev s_are_joined : Stmt := (top 44)
abbrev N_are_joined : List Str := ["edges", "one", "other"]
theorem sc_are_joined : FnScope N_are_joined ["edges", "one", "other"] (defScope s_are_joined) := ⟨rfl, rfl, rfl, by decide +kernel, rfl, by decide +kernel, by decide +kernel⟩
abbrev s_unjoined_beside : Stmt := (top 45)
abbrev N_unjoined_beside : List Str := ["edges", "names", "corner", "beside", "name", "one", "other"]
theorem sc_unjoined_beside : FnScope N_unjoined_beside ["edges", "names", "corner"] (defScope s_unjoined_beside) := ⟨rfl, rfl, rfl, by decide +kernel, rfl, by decide +kernel, by decide +kernel⟩
abbrev s_room_kept_by : Stmt := (top 46)
abbrev N_room_kept_by : List Str := ["parts", "names", "rules", "name", "ways", "part", "way"]
theorem sc_room_kept_by : FnScope N_room_kept_by ["parts"] (defScope s_room_kept_by) := ⟨rfl, rfl, rfl, by decide +kernel, rfl, by decide +kernel, by decide +kernel⟩
abbrev s_lw_forest : Stmt := (top 48)
abbrev N_lw_forest : List Str := ["_law_deal_here", "_law_names_here", "_law_found", "_law_at", "_law_pair"]
theorem sc_lw_forest : FnScope N_lw_forest ["_law_deal_here", "_law_names_here"] (defScope s_lw_forest) := ⟨rfl, rfl, rfl, by decide +kernel, rfl, by decide +kernel, by decide +kernel⟩
abbrev s_lw_corners : Stmt := (top 49)
abbrev N_lw_corners : List Str := ["_law_edges", "_law_found", "_law_pair", "_law_name"]
theorem sc_lw_corners : FnScope N_lw_corners ["_law_edges"] (defScope s_lw_corners) := ⟨rfl, rfl, rfl, by decide +kernel, rfl, by decide +kernel, by decide +kernel⟩
abbrev s_lw_beside : Stmt := (top 50)
abbrev N_lw_beside : List Str := ["_law_edges", "_law_name", "_law_gone", "_law_found", "_law_one", "_law_other", "_law_here", "_law_there"]
theorem sc_lw_beside : FnScope N_lw_beside ["_law_edges", "_law_name", "_law_gone"] (defScope s_lw_beside) := ⟨rfl, rfl, rfl, by decide +kernel, rfl, by decide +kernel, by decide +kernel⟩
abbrev s_lw_lots_by : Stmt := (top 51)
abbrev N_lw_lots_by : List Str := ["_law_names_here", "_law_free_at", "_law_found", "_law_waiting", "_law_lot", "_law_name"]
theorem sc_lw_lots_by : FnScope N_lw_lots_by ["_law_names_here", "_law_free_at"] (defScope s_lw_lots_by) := ⟨rfl, rfl, rfl, by decide +kernel, rfl, by decide +kernel, by decide +kernel⟩
abbrev s_lw_is_room : Stmt := (top 52)
abbrev N_lw_is_room : List Str := ["_law_made", "_law_names_here", "_law_due", "_law_told", "_law_lot"]
theorem sc_lw_is_room : FnScope N_lw_is_room ["_law_made", "_law_names_here", "_law_due"] (defScope s_lw_is_room) := ⟨rfl, rfl, rfl, by decide +kernel, rfl, by decide +kernel, by decide +kernel⟩
abbrev s_lw_deal : Stmt := (top 53)
abbrev N_lw_deal : List Str := ["_law_script", "_law_base", "_law_cells", "_law_cell", "_law_blend"]
theorem sc_lw_deal : FnScope N_lw_deal ["_law_script", "_law_base"] (defScope s_lw_deal) := ⟨rfl, rfl, rfl, by decide +kernel, rfl, by decide +kernel, by decide +kernel⟩
abbrev s_lw_draw : Stmt := (top 54)
abbrev N_lw_draw : List Str := ["_law_deal_here", "_law_bound", "_law_left"]
theorem sc_lw_draw : FnScope N_lw_draw ["_law_deal_here", "_law_bound"] (defScope s_lw_draw) := ⟨rfl, rfl, rfl, by decide +kernel, rfl, by decide +kernel, by decide +kernel⟩
abbrev s_lw_pick : Stmt := (top 55)
abbrev N_lw_pick : List Str := ["_law_deal_here", "_law_some"]
theorem sc_lw_pick : FnScope N_lw_pick ["_law_deal_here", "_law_some"] (defScope s_lw_pick) := ⟨rfl, rfl, rfl, by decide +kernel, rfl, by decide +kernel, by decide +kernel⟩
abbrev s_lw_mixed : Stmt := (top 56)
abbrev N_lw_mixed : List Str := ["_law_deal_here", "_law_some", "_law_left", "_law_found"]
theorem sc_lw_mixed : FnScope N_lw_mixed ["_law_deal_here", "_law_some"] (defScope s_lw_mixed) := ⟨rfl, rfl, rfl, by decide +kernel, rfl, by decide +kernel, by decide +kernel⟩
abbrev s_lw_names : Stmt := (top 57)
abbrev N_lw_names : List Str := ["_law_deal_here", "_law_bound", "_law_letters", "_law_spot", "_law_tail", "_law_k"]
theorem sc_lw_names : FnScope N_lw_names ["_law_deal_here", "_law_bound"] (defScope s_lw_names) := ⟨rfl, rfl, rfl, by decide +kernel, rfl, by decide +kernel, by decide +kernel⟩
abbrev s_lw_with : Stmt := (top 58)
abbrev N_lw_with : List Str := ["_law_lot", "_law_name", "_law_one"]
theorem sc_lw_with : FnScope N_lw_with ["_law_lot", "_law_name"] (defScope s_lw_with) := ⟨rfl, rfl, rfl, by decide +kernel, rfl, by decide +kernel, by decide +kernel⟩
abbrev s_lw_main : Stmt := (top 59)
abbrev N_lw_main : List Str := ["_law_script", "_law_base", "_law_deal_here", "_law_turn", "_law_edges", "_law_names_here", "_law_kept", "_law_due", "_law_lot", "_law_name"]
theorem sc_lw_main : FnScope N_lw_main ["_law_script"] (defScope s_lw_main) := ⟨rfl, rfl, rfl, by decide +kernel, rfl, by decide +kernel, by decide +kernel⟩
abbrev lx_lw_main_L0 : Expr := (GL.eArg (GL.sVal (GL.sAt (GL.sSub (GL.sAt (GL.sSub (GL.sAt (defBody s_lw_main) 0)) 1)) 2)) 1)
abbrev lS_lw_main_L0 : FnS := ⟨"law.<locals>.<lambda>", GL.lamA lx_lw_main_L0, GL.lamB lx_lw_main_L0, GL.lamC lx_lw_main_L0, ["_law_name", "_law_lot"], ["_law_edges"]⟩
theorem lp_lw_main_L0 : GL.LamP lS_lw_main_L0 := ⟨rfl, rfl, rfl, by decide +kernel, by decide +kernel, by decide +kernel, by decide +kernel, by decide +kernel, fun us _ _ _ _ hl => match us, hl with | [_, _], _ => rfl⟩
theorem lf_lw_main_L0 : ∀ y ∈ (GL.lamC lx_lw_main_L0).names, y.2 = .free → (defScope s_lw_main).names.lookup y.1 = some .cell ∨ (defScope s_lw_main).names.lookup y.1 = some .free := by decide +kernel
theorem lh_lw_main_L0 (X : Cx) (hq : X.env.qual = "law.<locals>.") (hs : X.env.scope = defScope s_lw_main) : GL.LamHere X lS_lw_main_L0 (GL.lamA lx_lw_main_L0) (GL.lamB lx_lw_main_L0) (GL.lamC lx_lw_main_L0) := ⟨by rw [hq]; rfl, rfl, rfl, rfl, by decide +kernel, by rw [hs]; exact lf_lw_main_L0⟩
theorem lc_lw_main_L0 (X : Cx) (hq : X.env.qual = "law.<locals>.") (hs : X.env.scope = defScope s_lw_main) (hN : X.N = N_lw_main) (hf : X.fn = fun _ => true) (ok : X.Ok) : GL.CapAt X (GL.capC X lS_lw_main_L0) lS_lw_main_L0.cap [4] := GL.capAt_of (lh_lw_main_L0 X hq hs) rfl (by rw [hs]; exact GL.cells_by (by decide +kernel)) (by rw [hN]; exact GL.slots_by (by decide +kernel)) (fun _ => by rw [hf]) ok
/-- where what the text needs stands -/
structure Ads where
  C_Rule : Addr
  C_Room : Addr
  C_InvalidDrawing : Addr
  C_InvalidRule : Addr
  f_is_int : Addr
  fd_is_int : FuncData
  f_is_index : Addr
  fd_is_index : FuncData
  f_is_name : Addr
  fd_is_name : FuncData
  f_is_sequence : Addr
  fd_is_sequence : FuncData
  f_are_names : Addr
  fd_are_names : FuncData
  f_are_unlike : Addr
  fd_are_unlike : FuncData
  f_lot_of : Addr
  fd_lot_of : FuncData
  f_bits_of : Addr
  fd_bits_of : FuncData
  f_names_of : Addr
  fd_names_of : FuncData
  f_InvalidRule_init : Addr
  fd_InvalidRule_init : FuncData
  f_InvalidDrawing_init : Addr
  fd_InvalidDrawing_init : FuncData
  f_may : Addr
  fd_may : FuncData
  f_is_fulfilled : Addr
  fd_is_fulfilled : FuncData
  f_lots : Addr
  fd_lots : FuncData
  f_lots_after : Addr
  fd_lots_after : FuncData
  f_others : Addr
  fd_others : FuncData
  f_leavers : Addr
  fd_leavers : FuncData
  e_leavers : Addr
  f_stuck : Addr
  fd_stuck : FuncData
  f_hull : Addr
  fd_hull : FuncData
  f_Rule_init : Addr
  fd_Rule_init : FuncData
  e_Rule_init : Addr
  f_Rule_eq : Addr
  fd_Rule_eq : FuncData
  f_Rule_str : Addr
  fd_Rule_str : FuncData
  f_read_rule : Addr
  fd_read_rule : FuncData
  f_Room_init : Addr
  fd_Room_init : FuncData
  e_Room_init : Addr
  f_Room_read : Addr
  fd_Room_read : FuncData
  p_Room_read : Addr
  f_Room_without : Addr
  fd_Room_without : FuncData
  f_Room_len : Addr
  fd_Room_len : FuncData
  f_Room_getitem : Addr
  fd_Room_getitem : FuncData
  f_Room_add : Addr
  fd_Room_add : FuncData
  f_Room_eq : Addr
  fd_Room_eq : FuncData
  f_Room_str : Addr
  fd_Room_str : FuncData
  f_least_meeting : Addr
  fd_least_meeting : FuncData
  f_ones_of : Addr
  fd_ones_of : FuncData
  f_has_one_of : Addr
  fd_has_one_of : FuncData
  f_tree : Addr
  fd_tree : FuncData
  f_taken_down : Addr
  fd_taken_down : FuncData
  f_check_edges : Addr
  fd_check_edges : FuncData
  f_is_tuple_of : Addr
  fd_is_tuple_of : FuncData
  f_ring_at : Addr
  fd_ring_at : FuncData
  f_are_joined : Addr
  fd_are_joined : FuncData
  f_unjoined_beside : Addr
  fd_unjoined_beside : FuncData
  f_room_kept_by : Addr
  fd_room_kept_by : FuncData
  f_lw_forest : Addr
  fd_lw_forest : FuncData
  f_lw_corners : Addr
  fd_lw_corners : FuncData
  f_lw_beside : Addr
  fd_lw_beside : FuncData
  f_lw_lots_by : Addr
  fd_lw_lots_by : FuncData
  f_lw_is_room : Addr
  fd_lw_is_room : FuncData
  f_lw_deal : Addr
  fd_lw_deal : FuncData
  f_lw_draw : Addr
  fd_lw_draw : FuncData
  f_lw_pick : Addr
  fd_lw_pick : FuncData
  f_lw_mixed : Addr
  fd_lw_mixed : FuncData
  f_lw_names : Addr
  fd_lw_names : FuncData
  f_lw_with : Addr
  fd_lw_with : FuncData
  f_lw_main : Addr
  fd_lw_main : FuncData
structure Txt (K : PySem.W.Frag) (mg : Str → Option Value) (a : Ads) : Prop where
  cl_Rule : Cls K a.C_Rule
  m_Rule : mg "Rule" = some (.ref a.C_Rule)
  mk_Rule : Mk K a.C_Rule a.f_Rule_init
  isC_Rule : C8.InsC K a.C_Rule
  no_Rule_name : NoAttr K a.C_Rule "name"
  no_Rule_gone : NoAttr K a.C_Rule "gone"
  nn_Rule : GX.NoNe K a.C_Rule
  nf_Rule_str : PySem.W.notFirst K a.C_Rule (.type "str") = true
  nf_Rule_Room : PySem.W.notFirst K a.C_Rule (.ref a.C_Room) = true
  cl_Room : Cls K a.C_Room
  m_Room : mg "Room" = some (.ref a.C_Room)
  mk_Room : Mk K a.C_Room a.f_Room_init
  isC_Room : C8.InsC K a.C_Room
  no_Room_rules : NoAttr K a.C_Room "rules"
  no_Room_names : NoAttr K a.C_Room "names"
  m_InvalidDrawing : mg "InvalidDrawing" = some (.ref a.C_InvalidDrawing)
  oe_InvalidDrawing : OexC K a.C_InvalidDrawing
  ei_InvalidDrawing : PySem.W.findIn K (.ref a.C_InvalidDrawing) "__init__" = some (some (.ref a.f_InvalidDrawing_init))
  et_InvalidDrawing : PySem.W.typeIn K (.ref a.f_InvalidDrawing_init) = some (.type "function")
  en_InvalidDrawing : PySem.W.findIn K (.ref a.C_InvalidDrawing) "at" = some none
  xf_InvalidDrawing : XfC K a.C_InvalidDrawing
  xc_InvalidDrawing : ExcC K a.C_InvalidDrawing
  em_InvalidDrawing : PySem.W.exmOne K (.ref a.C_InvalidDrawing) (.ref a.C_InvalidDrawing) = some true
  m_InvalidRule : mg "InvalidRule" = some (.ref a.C_InvalidRule)
  oe_InvalidRule : OexC K a.C_InvalidRule
  ei_InvalidRule : PySem.W.findIn K (.ref a.C_InvalidRule) "__init__" = some (some (.ref a.f_InvalidRule_init))
  et_InvalidRule : PySem.W.typeIn K (.ref a.f_InvalidRule_init) = some (.type "function")
  en_InvalidRule : PySem.W.findIn K (.ref a.C_InvalidRule) "word" = some none
  xf_InvalidRule : XfC K a.C_InvalidRule
  xc_InvalidRule : ExcC K a.C_InvalidRule
  em_InvalidRule : PySem.W.exmOne K (.ref a.C_InvalidRule) (.ref a.C_InvalidRule) = some true
  kt_Room : ∀ n ∈ ["NoneType", "bool", "int", "str", "list", "tuple"], PySem.W.kitOne K (.type n) (.ref a.C_Room) = some false
  ko_Rule_Room : PySem.W.kitOne K (.ref a.C_Rule) (.ref a.C_Room) = some false
  ko_Room_Room : PySem.W.kitOne K (.ref a.C_Room) (.ref a.C_Room) = some true
  kt_Rule : ∀ n ∈ ["NoneType", "bool", "int", "str", "list", "tuple"], PySem.W.kitOne K (.type n) (.ref a.C_Rule) = some false
  ko_Rule_Rule : PySem.W.kitOne K (.ref a.C_Rule) (.ref a.C_Rule) = some true
  ko_Room_Rule : PySem.W.kitOne K (.ref a.C_Room) (.ref a.C_Rule) = some false
  F_is_int : Fun K "is_int" "is_int" s_is_int a.f_is_int a.fd_is_int
  b_is_int : Binds K a.fd_is_int ["value"] []
  m_is_int : mg "is_int" = some (.ref a.f_is_int)
  F_is_index : Fun K "is_index" "is_index" s_is_index a.f_is_index a.fd_is_index
  b_is_index : Binds K a.fd_is_index ["value", "many"] []
  m_is_index : mg "is_index" = some (.ref a.f_is_index)
  F_is_name : Fun K "is_name" "is_name" s_is_name a.f_is_name a.fd_is_name
  b_is_name : Binds K a.fd_is_name ["value"] []
  m_is_name : mg "is_name" = some (.ref a.f_is_name)
  F_is_sequence : Fun K "is_sequence" "is_sequence" s_is_sequence a.f_is_sequence a.fd_is_sequence
  b_is_sequence : Binds K a.fd_is_sequence ["value"] []
  m_is_sequence : mg "is_sequence" = some (.ref a.f_is_sequence)
  F_are_names : Fun K "are_names" "are_names" s_are_names a.f_are_names a.fd_are_names
  b_are_names : Binds K a.fd_are_names ["value"] []
  m_are_names : mg "are_names" = some (.ref a.f_are_names)
  F_are_unlike : Fun K "are_unlike" "are_unlike" s_are_unlike a.f_are_unlike a.fd_are_unlike
  b_are_unlike : Binds K a.fd_are_unlike ["value"] []
  m_are_unlike : mg "are_unlike" = some (.ref a.f_are_unlike)
  F_lot_of : Fun K "lot_of" "lot_of" s_lot_of a.f_lot_of a.fd_lot_of
  b_lot_of : Binds K a.fd_lot_of ["names"] []
  m_lot_of : mg "lot_of" = some (.ref a.f_lot_of)
  F_bits_of : Fun K "bits_of" "bits_of" s_bits_of a.f_bits_of a.fd_bits_of
  b_bits_of : Binds K a.fd_bits_of ["names", "some"] []
  m_bits_of : mg "bits_of" = some (.ref a.f_bits_of)
  F_names_of : Fun K "names_of" "names_of" s_names_of a.f_names_of a.fd_names_of
  b_names_of : Binds K a.fd_names_of ["names", "bits"] []
  m_names_of : mg "names_of" = some (.ref a.f_names_of)
  F_InvalidRule_init : Fun K "__init__" "InvalidRule.__init__" s_InvalidRule_init a.f_InvalidRule_init a.fd_InvalidRule_init
  b_InvalidRule_init : Binds K a.fd_InvalidRule_init ["self", "word"] []
  F_InvalidDrawing_init : Fun K "__init__" "InvalidDrawing.__init__" s_InvalidDrawing_init a.f_InvalidDrawing_init a.fd_InvalidDrawing_init
  b_InvalidDrawing_init : Binds K a.fd_InvalidDrawing_init ["self", "at"] []
  F_may : Fun K "may" "may" s_may a.f_may a.fd_may
  b_may : Binds K a.fd_may ["room", "gone"] []
  m_may : mg "may" = some (.ref a.f_may)
  F_is_fulfilled : Fun K "is_fulfilled" "is_fulfilled" s_is_fulfilled a.f_is_fulfilled a.fd_is_fulfilled
  b_is_fulfilled : Binds K a.fd_is_fulfilled ["rule", "gone"] []
  m_is_fulfilled : mg "is_fulfilled" = some (.ref a.f_is_fulfilled)
  F_lots : Fun K "lots" "lots" s_lots a.f_lots a.fd_lots
  b_lots : Binds K a.fd_lots ["room"] []
  m_lots : mg "lots" = some (.ref a.f_lots)
  F_lots_after : Fun K "lots_after" "lots_after" s_lots_after a.f_lots_after a.fd_lots_after
  b_lots_after : Binds K a.fd_lots_after ["room"] []
  m_lots_after : mg "lots_after" = some (.ref a.f_lots_after)
  F_others : Fun K "others" "others" s_others a.f_others a.fd_others
  b_others : Binds K a.fd_others ["room", "names"] []
  m_others : mg "others" = some (.ref a.f_others)
  F_leavers : FunD K "leavers" "leavers" (defArgs s_leavers) (defBody s_leavers) (defScope s_leavers) [V.ref a.e_leavers] [] a.f_leavers a.fd_leavers
  b_leavers : Binds K a.fd_leavers ["room", "staying", "gone"] []
  b1_leavers : ∃ ds, Vals [V.ref a.e_leavers] ds ∧ Binds K a.fd_leavers ["room", "staying", "gone"] ds
  t_leavers : ∀ M : Hp, SqT K M a.e_leavers []
  m_leavers : mg "leavers" = some (.ref a.f_leavers)
  F_stuck : Fun K "stuck" "stuck" s_stuck a.f_stuck a.fd_stuck
  b_stuck : Binds K a.fd_stuck ["room"] []
  m_stuck : mg "stuck" = some (.ref a.f_stuck)
  F_hull : Fun K "hull" "hull" s_hull a.f_hull a.fd_hull
  b_hull : Binds K a.fd_hull ["room", "staying"] []
  m_hull : mg "hull" = some (.ref a.f_hull)
  F_Rule_init : FunD K "__init__" "Rule.__init__" (defArgs s_Rule_init) (defBody s_Rule_init) (defScope s_Rule_init) [V.ref a.e_Rule_init] [] a.f_Rule_init a.fd_Rule_init
  b_Rule_init : Binds K a.fd_Rule_init ["self", "name", "gone"] []
  b1_Rule_init : ∃ ds, Vals [V.ref a.e_Rule_init] ds ∧ Binds K a.fd_Rule_init ["self", "name", "gone"] ds
  t_Rule_init : ∀ M : Hp, SqT K M a.e_Rule_init []
  F_Rule_eq : Fun K "__eq__" "Rule.__eq__" s_Rule_eq a.f_Rule_eq a.fd_Rule_eq
  b_Rule_eq : Binds K a.fd_Rule_eq ["self", "other"] []
  mt_Rule_eq : Meth K a.C_Rule "__eq__" a.f_Rule_eq
  F_Rule_str : Fun K "__str__" "Rule.__str__" s_Rule_str a.f_Rule_str a.fd_Rule_str
  b_Rule_str : Binds K a.fd_Rule_str ["self"] []
  mt_Rule_str : Meth K a.C_Rule "__str__" a.f_Rule_str
  F_read_rule : Fun K "read_rule" "read_rule" s_read_rule a.f_read_rule a.fd_read_rule
  b_read_rule : Binds K a.fd_read_rule ["line"] []
  m_read_rule : mg "read_rule" = some (.ref a.f_read_rule)
  F_Room_init : FunD K "__init__" "Room.__init__" (defArgs s_Room_init) (defBody s_Room_init) (defScope s_Room_init) [V.ref a.e_Room_init] [] a.f_Room_init a.fd_Room_init
  b_Room_init : Binds K a.fd_Room_init ["self", "rules"] []
  b1_Room_init : ∃ ds, Vals [V.ref a.e_Room_init] ds ∧ Binds K a.fd_Room_init ["self", "rules"] ds
  t_Room_init : ∀ M : Hp, SqT K M a.e_Room_init []
  F_Room_read : Fun K "read" "Room.read" s_Room_read a.f_Room_read a.fd_Room_read
  b_Room_read : Binds K a.fd_Room_read ["cls", "text"] []
  cm_Room_read : ClX.CMet K a.C_Room (.type "type") "read" a.p_Room_read a.f_Room_read
  cr_Room : ClX.CRead K a.C_Room (.type "type")
  F_Room_without : Fun K "without" "Room.without" s_Room_without a.f_Room_without a.fd_Room_without
  b_Room_without : Binds K a.fd_Room_without ["self", "at"] []
  mt_Room_without : Meth K a.C_Room "without" a.f_Room_without
  F_Room_len : Fun K "__len__" "Room.__len__" s_Room_len a.f_Room_len a.fd_Room_len
  b_Room_len : Binds K a.fd_Room_len ["self"] []
  mt_Room_len : Meth K a.C_Room "__len__" a.f_Room_len
  F_Room_getitem : Fun K "__getitem__" "Room.__getitem__" s_Room_getitem a.f_Room_getitem a.fd_Room_getitem
  b_Room_getitem : Binds K a.fd_Room_getitem ["self", "at"] []
  mt_Room_getitem : Meth K a.C_Room "__getitem__" a.f_Room_getitem
  F_Room_add : Fun K "__add__" "Room.__add__" s_Room_add a.f_Room_add a.fd_Room_add
  b_Room_add : Binds K a.fd_Room_add ["self", "other"] []
  mt_Room_add : Meth K a.C_Room "__add__" a.f_Room_add
  F_Room_eq : Fun K "__eq__" "Room.__eq__" s_Room_eq a.f_Room_eq a.fd_Room_eq
  b_Room_eq : Binds K a.fd_Room_eq ["self", "other"] []
  mt_Room_eq : Meth K a.C_Room "__eq__" a.f_Room_eq
  F_Room_str : Fun K "__str__" "Room.__str__" s_Room_str a.f_Room_str a.fd_Room_str
  b_Room_str : Binds K a.fd_Room_str ["self"] []
  mt_Room_str : Meth K a.C_Room "__str__" a.f_Room_str
  F_least_meeting : Fun K "least_meeting" "least_meeting" s_least_meeting a.f_least_meeting a.fd_least_meeting
  b_least_meeting : Binds K a.fd_least_meeting ["parts"] []
  m_least_meeting : mg "least_meeting" = some (.ref a.f_least_meeting)
  F_ones_of : Fun K "ones_of" "ones_of" s_ones_of a.f_ones_of a.fd_ones_of
  b_ones_of : Binds K a.fd_ones_of ["bits"] []
  m_ones_of : mg "ones_of" = some (.ref a.f_ones_of)
  F_has_one_of : Fun K "has_one_of" "has_one_of" s_has_one_of a.f_has_one_of a.fd_has_one_of
  b_has_one_of : Binds K a.fd_has_one_of ["bits", "lots"] []
  m_has_one_of : mg "has_one_of" = some (.ref a.f_has_one_of)
  F_tree : Fun K "tree" "tree" s_tree a.f_tree a.fd_tree
  b_tree : Binds K a.fd_tree ["edges"] []
  m_tree : mg "tree" = some (.ref a.f_tree)
  F_taken_down : Fun K "taken_down" "taken_down" s_taken_down a.f_taken_down a.fd_taken_down
  b_taken_down : Binds K a.fd_taken_down ["edges"] []
  m_taken_down : mg "taken_down" = some (.ref a.f_taken_down)
  F_check_edges : Fun K "check_edges" "check_edges" s_check_edges a.f_check_edges a.fd_check_edges
  b_check_edges : Binds K a.fd_check_edges ["edges"] []
  m_check_edges : mg "check_edges" = some (.ref a.f_check_edges)
  F_is_tuple_of : Fun K "is_tuple_of" "is_tuple_of" s_is_tuple_of a.f_is_tuple_of a.fd_is_tuple_of
  b_is_tuple_of : Binds K a.fd_is_tuple_of ["value", "many"] []
  m_is_tuple_of : mg "is_tuple_of" = some (.ref a.f_is_tuple_of)
  F_ring_at : Fun K "ring_at" "ring_at" s_ring_at a.f_ring_at a.fd_ring_at
  b_ring_at : Binds K a.fd_ring_at ["edges"] []
  m_ring_at : mg "ring_at" = some (.ref a.f_ring_at)
  F_are_joined : Fun K "are_joined" "are_joined" s_are_joined a.f_are_joined a.fd_are_joined
  b_are_joined : Binds K a.fd_are_joined ["edges", "one", "other"] []
  m_are_joined : mg "are_joined" = some (.ref a.f_are_joined)
  F_unjoined_beside : Fun K "unjoined_beside" "unjoined_beside" s_unjoined_beside a.f_unjoined_beside a.fd_unjoined_beside
  b_unjoined_beside : Binds K a.fd_unjoined_beside ["edges", "names", "corner"] []
  m_unjoined_beside : mg "unjoined_beside" = some (.ref a.f_unjoined_beside)
  F_room_kept_by : Fun K "room_kept_by" "room_kept_by" s_room_kept_by a.f_room_kept_by a.fd_room_kept_by
  b_room_kept_by : Binds K a.fd_room_kept_by ["parts"] []
  m_room_kept_by : mg "room_kept_by" = some (.ref a.f_room_kept_by)
  F_lw_forest : Fun K "_law_forest" "_law_forest" s_lw_forest a.f_lw_forest a.fd_lw_forest
  b_lw_forest : Binds K a.fd_lw_forest ["_law_deal_here", "_law_names_here"] []
  m_lw_forest : mg "_law_forest" = some (.ref a.f_lw_forest)
  F_lw_corners : Fun K "_law_corners" "_law_corners" s_lw_corners a.f_lw_corners a.fd_lw_corners
  b_lw_corners : Binds K a.fd_lw_corners ["_law_edges"] []
  m_lw_corners : mg "_law_corners" = some (.ref a.f_lw_corners)
  F_lw_beside : Fun K "_law_beside" "_law_beside" s_lw_beside a.f_lw_beside a.fd_lw_beside
  b_lw_beside : Binds K a.fd_lw_beside ["_law_edges", "_law_name", "_law_gone"] []
  m_lw_beside : mg "_law_beside" = some (.ref a.f_lw_beside)
  F_lw_lots_by : Fun K "_law_lots_by" "_law_lots_by" s_lw_lots_by a.f_lw_lots_by a.fd_lw_lots_by
  b_lw_lots_by : Binds K a.fd_lw_lots_by ["_law_names_here", "_law_free_at"] []
  m_lw_lots_by : mg "_law_lots_by" = some (.ref a.f_lw_lots_by)
  F_lw_is_room : Fun K "_law_is_room" "_law_is_room" s_lw_is_room a.f_lw_is_room a.fd_lw_is_room
  b_lw_is_room : Binds K a.fd_lw_is_room ["_law_made", "_law_names_here", "_law_due"] []
  m_lw_is_room : mg "_law_is_room" = some (.ref a.f_lw_is_room)
  F_lw_deal : Fun K "_law_deal" "_law_deal" s_lw_deal a.f_lw_deal a.fd_lw_deal
  b_lw_deal : Binds K a.fd_lw_deal ["_law_script", "_law_base"] []
  m_lw_deal : mg "_law_deal" = some (.ref a.f_lw_deal)
  F_lw_draw : Fun K "_law_draw" "_law_draw" s_lw_draw a.f_lw_draw a.fd_lw_draw
  b_lw_draw : Binds K a.fd_lw_draw ["_law_deal_here", "_law_bound"] []
  m_lw_draw : mg "_law_draw" = some (.ref a.f_lw_draw)
  F_lw_pick : Fun K "_law_pick" "_law_pick" s_lw_pick a.f_lw_pick a.fd_lw_pick
  b_lw_pick : Binds K a.fd_lw_pick ["_law_deal_here", "_law_some"] []
  m_lw_pick : mg "_law_pick" = some (.ref a.f_lw_pick)
  F_lw_mixed : Fun K "_law_mixed" "_law_mixed" s_lw_mixed a.f_lw_mixed a.fd_lw_mixed
  b_lw_mixed : Binds K a.fd_lw_mixed ["_law_deal_here", "_law_some"] []
  m_lw_mixed : mg "_law_mixed" = some (.ref a.f_lw_mixed)
  F_lw_names : Fun K "_law_names" "_law_names" s_lw_names a.f_lw_names a.fd_lw_names
  b_lw_names : Binds K a.fd_lw_names ["_law_deal_here", "_law_bound"] []
  m_lw_names : mg "_law_names" = some (.ref a.f_lw_names)
  F_lw_with : Fun K "_law_with" "_law_with" s_lw_with a.f_lw_with a.fd_lw_with
  b_lw_with : Binds K a.fd_lw_with ["_law_lot", "_law_name"] []
  m_lw_with : mg "_law_with" = some (.ref a.f_lw_with)
  F_lw_main : Fun K "law" "law" s_lw_main a.f_lw_main a.fd_lw_main
  b_lw_main : Binds K a.fd_lw_main ["_law_script"] []
  m_lw_main : mg "law" = some (.ref a.f_lw_main)
  n_abs : mg "abs" = none
  n_all : mg "all" = none
  n_any : mg "any" = none
  n_bool : mg "bool" = none
  n_enumerate : mg "enumerate" = none
  n_int : mg "int" = none
  n_isinstance : mg "isinstance" = none
  n_len : mg "len" = none
  n_list : mg "list" = none
  n_max : mg "max" = none
  n_min : mg "min" = none
  n_range : mg "range" = none
  n_set : mg "set" = none
  n_sorted : mg "sorted" = none
  n_str : mg "str" = none
  n_sum : mg "sum" = none
  n_tuple : mg "tuple" = none
  m_LETTERS : ∃ u, mg "LETTERS" = some u ∧ RelV (.str "abcdefghijklmnopqrstuvwxyz") u
abbrev ZZ (K : PySem.W.Frag) (a : Ads) : Wd := { K := K, cl := fun c => if c = 0 then ⟨a.C_Rule, ["name", "gone"]⟩ else if c = 1 then ⟨a.C_Room, ["rules", "names"]⟩ else ⟨0, []⟩, er := fun c => if c = 6 then (a.C_InvalidDrawing, "at") else if c = 0 then (a.C_InvalidRule, "word") else (0, ""), fn := fun k => if k = 0 then some lS_lw_main_L0 else none }
theorem ok_InvalidDrawing_init {P : Program} {w : World} {K : PySem.W.Frag} {mg : Str → Option Value} {base : Heap} {a : Ads} (T : Txt K mg a) : FnOk P w K mg base CX0 1 a.f_InvalidDrawing_init a.fd_InvalidDrawing_init ["self", "at"] (GX.spErr K "at") := by
  refine T.F_InvalidDrawing_init.ok sc_InvalidDrawing_init (fun vs H Q E h => ?_) (fun cdv A outer s H vs Q E hr h => ?_)
  · obtain ⟨x, C, v, rfl, _⟩ := h; rfl
  · obtain ⟨x, C, v, rfl, o, n, e, k⟩ := h
    exact ⟨_, pss_one (ps_ost (pv 0) (pv 1)), _, rfl, _, rfl, x, C, rfl, o, n, .inl ⟨e, k⟩⟩
theorem ok_InvalidRule_init {P : Program} {w : World} {K : PySem.W.Frag} {mg : Str → Option Value} {base : Heap} {a : Ads} (T : Txt K mg a) : FnOk P w K mg base CX0 1 a.f_InvalidRule_init a.fd_InvalidRule_init ["self", "word"] (GX.spErr K "word") := by
  refine T.F_InvalidRule_init.ok sc_InvalidRule_init (fun vs H Q E h => ?_) (fun cdv A outer s H vs Q E hr h => ?_)
  · obtain ⟨x, C, v, rfl, _⟩ := h; rfl
  · obtain ⟨x, C, v, rfl, o, n, e, k⟩ := h
    exact ⟨_, pss_one (ps_ost (pv 0) (pv 1)), _, rfl, _, rfl, x, C, rfl, o, n, .inl ⟨e, k⟩⟩
/-! ### numbers -/
theorem mulw {i j : Int} (h1 : -(2 ^ 90) ≤ i ∧ i ≤ 2 ^ 90) (h2 : -(2 ^ 90) ≤ j ∧ j ≤ 2 ^ 90) : CMulW i j := wide_mul (a := 91) (b := 91) (by omega) (by omega) (by decide) (by decide) (by decide)
theorem divw {i j : Int} (h : 0 < j) (h2 : j ≤ 2 ^ 60) : CDivW i j := wide_div (b := 61) h (by omega) (by decide) (by decide)
/-! ### steps -/
local macro_rules | `(tactic| walk_at "sc") => `(tactic| first
  | decide
  | omega
  | exact ⟨by decide, by decide, by decide⟩
  | exact mulw (by omega) (by omega)
  | exact divw (by omega) (by omega)
  | (simp only [List.length_cons, List.length_nil]; omega))
local macro_rules | `(tactic| walk_at "x1") => `(tactic| first
  | with_reducible refine xs_seq ?_
  | with_reducible refine on_d ?_
  | with_reducible refine if_tt ?_
  | with_reducible refine if_ff ?_
  | with_reducible refine if_nt ?_
  | with_reducible refine if_nf ?_
  | with_reducible refine xe_inT ?_
  | with_reducible refine xe_ninT ?_
  | with_reducible refine xe_repB ?_
  | with_reducible refine xe_isN ?_
  | with_reducible refine xe_notN ?_
  | with_reducible refine xe_isB ?_
  | with_reducible refine xe_notB ?_
  | with_reducible refine xe_orV ?_
  | with_reducible refine on_o ?_
  | with_reducible refine xs_next ?_
  | with_reducible refine xs_if ?_
  | with_reducible refine xs_drop ?_
  | ((fail_if_success (with_reducible refine blk_lst ?_)); (fail_if_success (with_reducible refine blk_lc ?_)); (with_reducible refine xs_set ?hb ?_); (case hb => decide))
  | ((with_reducible refine' xe_var ?hv ?_); (case hv => rfl))
  | with_reducible refine xe_int ?_
  | with_reducible refine xe_str ?_
  | with_reducible refine xe_bl ?_
  | with_reducible refine xe_non ?_
  | with_reducible refine xe_neg ?_
  | with_reducible refine xe_I0 ?_
  | with_reducible refine xe_B0 ?_
  | with_reducible refine xe_I ?_
  | with_reducible refine xe_callIntC ?_
  | with_reducible refine xe_callInt ?_
  | with_reducible refine xe_abs ?_
  | with_reducible refine xe_isi ?_
  | with_reducible refine xe_isiSeq ?_
  | with_reducible refine xe_isiC ?_
  | with_reducible refine xe_chain ?_
  | with_reducible refine xe_andV ?_
  | with_reducible refine xe_strS ?_
  | with_reducible refine xe_max2 ?_
  | with_reducible refine xe_min2 ?_
  | ((with_reducible refine xe_ixO ?_ ?hv); (case hv => exact ⟨_, rfl⟩))
  | ((with_reducible refine' xe_lenO ?hv ?_); (case hv => rfl))
  | with_reducible refine xe_len ?_
  | with_reducible refine xs_item0 ?_
  | with_reducible refine xt_test ?_
  | with_reducible refine xt_B ?_
  | with_reducible refine xt_not ?_
  | with_reducible refine xt_and ?_
  | with_reducible refine xt_or ?_
  | with_reducible refine xa_cons ?_
  | with_reducible refine xa_nil ?_
  | refine ⟨_, _, rfl, rfl, ?_⟩
  | refine ⟨_, _, _, rfl, rfl, rfl, ?_⟩
  | refine ⟨_, rfl, ?_⟩
  | dsimp only [List.set]
  | (refine And.intro ?sc ?_; (case sc => walk_at "sc")))
local macro_rules | `(tactic| walk_at "xs") => `(tactic| repeat (walk_at "x1"))
local macro_rules | `(tactic| walk_at "ent") => `(tactic| dsimp only [cxOf, Cx.nox, Cx.wish, List.map, List.replicate, List.cons_append, List.nil_append])
local macro_rules | `(tactic| walk_at "ret") => `(tactic| ((with_reducible refine xs_ret ?_); walk_at "xs"))
/-! ### deals -/
def nmQ (c t : Nat) : Str := (⟨#[97 + c]⟩ : Str) ++ Txt.mul "q" (t : Int)
/-- a letter and up to two q: all names that these laws draw -/
def pool : List Str := (List.range 3).flatMap fun t => (List.range 26).map fun c => nmQ c t
def DealD (y : Dl) : Prop := 0 ≤ y.n ∧ y.n < 2147483647 ∧ y.cs.length ≤ 63 ∧ ∀ c ∈ y.cs, 0 ≤ c
def F_draw : FD := fun y ds Φ => ∃ b : Int, ds = [.int b] ∧ 0 < b ∧ b < 2 ^ 30 ∧ DealD y ∧ ∀ d y', 0 ≤ d → d < b → DealD y' → Φ (.d (.int d)) y'
section
variable {P : Program} {w : World} {K : PySem.W.Frag} {mg : Str → Option Value} {base : Heap} {a : Ads}
theorem ok_draw (T : Txt K mg a) : FnOk P w K mg base CX0 1 a.f_lw_draw a.fd_lw_draw ["_law_deal_here", "_law_bound"] (spD (ZZ K a) F_draw) := by
  refine T.F_lw_draw.ok sc_lw_draw (fun vs H Q E h => ?_) (fun cdv A outer s H vs Q E hr h => ?_)
  · obtain ⟨M, p, q, y, ws, ds, Φ, rfl, _, _, al, ⟨b, rfl, _⟩, _⟩ := h
    simp [al.len]
  · obtain ⟨M, p, q, y, ws, ds, Φ, rfl, so, ex, al, ⟨b, rfl, b0, b1, hy, k⟩, fin⟩ := h
    refine ⟨_, (pss_cons (ps_while PassesOwn.never (PW.pt (pw_and (pt_cmpR (op_neD hr.units) (pe_ix (show IxR _ (rIx K) from ix_seq) (pv 0) pe_int (fun _ _ => rfl)) (pe_lst pa_nil) (nomark _)) (pw_and1 (pt_cmpR op_eq (pe_ix (show IxR _ (rIx K) from ix_seq) (pe_ix (show IxR _ (rIx K) from ix_seq) (pv 0) pe_int (fun _ _ => rfl)) (pe_un un_neg pe_int) (fun _ _ => rfl)) pe_int (nomark _))))) (pss_one (ps_expr (pe_bm0 PySem.F.plainAttrs_list PySem.F.slot_list_pop PySem.F.type_list_pop mt_pop (pe_ix (show IxR _ (rIx K) from ix_seq) (pv 0) pe_int (fun _ _ => rfl))))))
      (pss_cons (ps_if (pt_cmpR (op_neD hr.units) (pe_ix (show IxR _ (rIx K) from ix_seq) (pv 0) pe_int (fun _ _ => rfl)) (pe_lst pa_nil) (nomark _)) (pss_cons (ps_set (i := 2) sc_lw_draw.nd rfl (Or.inl rfl) (pe_bm0 PySem.F.plainAttrs_list PySem.F.slot_list_pop PySem.F.type_list_pop mt_pop (pe_ix (show IxR _ (rIx K) from ix_seq) (pv 0) pe_int (fun _ _ => rfl))))
      (pss_cons (ps_expr (pe_bm PySem.F.plainAttrs_list PySem.F.slot_list_append PySem.F.type_list_append mt_append (pe_ix (show IxR _ (rIx K) from ix_seq) (pv 0) pe_int (fun _ _ => rfl)) (pa_cons (pe_op op_fdivW (pv 2) (pv 1)) pa_nil)))
      (pss_one (ps_ret (pe_op op_mod (pe_callTy call_int1 (by rfl) T.n_int (by decide +kernel) (pa_cons (pv 2) pa_nil)) (pv 1)))))) pss_nil)
      (pss_cons (ps_asg (pe_op op_mod (pe_callTy call_int1 (by rfl) T.n_int (by decide +kernel) (pa_cons (pe_op op_add (pe_op op_mulW (pe_ix (show IxR _ (rIx K) from ix_seq) (pv 0) pe_int (fun _ _ => rfl)) pe_int) pe_int) pa_nil)) pe_int) (pg_sub (pv 0) pe_int set_list))
      (pss_one (ps_ret (pe_op op_mod (pe_callTy call_int1 (by rfl) T.n_int (by decide +kernel) (pa_cons (pe_op op_fdivW (pe_ix (show IxR _ (rIx K) from ix_seq) (pv 0) pe_int (fun _ _ => rfl)) pe_int) pa_nil)) (pv 1))))))), entD (n := 1) so ex al rfl fin ?_⟩
    walk_at "ent"
    refine xs_seq <| xs_while (fun m δ => ∃ cs, δ = [.deal q cs y.n, .d (.int b), .no] ∧ cs.length = m ∧ DealD ⟨cs, y.n⟩) ⟨_, y.cs, rfl, rfl, hy⟩ ?_
    rintro m δ1 ⟨cs, rfl, rfl, hc⟩
    obtain ⟨n0, n1, l, nn⟩ := hc
    have n0 : 0 ≤ y.n := n0
    have n1 : y.n < 2147483647 := n1
    have l : cs.length ≤ 63 := l
    have nn : ∀ c ∈ cs, 0 ≤ c := nn
    refine xt_and <| xt_test <| xe_dealNe (i := 0) rfl ⟨_, rfl, ?_⟩
    rcases List.eq_nil_or_concat cs with rfl | ⟨ks, c, hcc⟩
    · refine if_ff <| if_ff ?_
      refine xs_seq <| xs_if <| xt_test <| xe_dealNe (i := 0) rfl ⟨_, rfl, if_ff <| xs_next ?_⟩
      refine xs_seq <| xs_deal1 <| xe_I <| xe_callInt <| xe_I0 <| xe_I <| xe_dealN (i := 0) rfl <| xe_int ⟨_, _, rfl, rfl, mulw (by omega) (by omega), xe_int ⟨_, _, rfl, rfl, _, rfl, xe_int ⟨_, _, rfl, rfl, by omega, _, _, _, _, rfl, rfl, ?_⟩⟩⟩
      try dsimp only [List.set]
      refine xs_ret <| xe_I <| xe_callInt <| xe_I <| xe_dealN (i := 0) rfl <| xe_int ⟨_, _, rfl, rfl, divw (by omega) (by omega), _, rfl, xe_var rfl ⟨_, _, rfl, rfl, b0, ?_⟩⟩
      exact ⟨⟨[], _⟩, rfl, k _ _ (Int.emod_nonneg _ (by omega)) (Int.emod_lt_of_pos _ b0) ⟨Int.emod_nonneg _ (by omega), Int.emod_lt_of_pos _ (by omega), by simp, by simp⟩⟩
    · rw [List.concat_eq_append] at hcc
      subst hcc
      have e1 : (!(ks ++ [c]).isEmpty) = true := by simp
      have ix : atI (ks ++ [c]) (-1) = some c := by
        unfold atI ixN
        simp only [List.length_append, List.length_singleton, Int.reduceNeg, Int.natCast_add]
        rw [if_neg (by omega), if_pos (by omega), show (-1 + ((ks.length : Int) + ((1 : Nat) : Int))).toNat = ks.length by omega]
        simp
      rw [e1]
      refine if_tt <| xt_test <| xe_eq <| xe_dealIx (i := 0) rfl <| xe_neg <| xe_int ⟨_, rfl, rfl, _, c, rfl, ix, xe_int ⟨_, _, rfl, rfl, rfl, _, rfl, ?_⟩⟩
      refine ite_b (fun h => ?_) (fun h => ?_)
      · exact xs_drop <| xe_dealPop (i := 0) rfl ⟨ks.length, by simp, ks, rfl, rfl, n0, n1, by simp at l ⊢; omega, fun c hc => nn c (by simp [hc])⟩
      · refine xs_seq <| xs_if <| xt_test <| xe_dealNe (i := 0) rfl ⟨_, rfl, ?_⟩
        rw [e1]
        refine if_tt ?_
        have c0 : 0 ≤ c := nn c (by simp)
        refine xs_seq <| xs_set (by decide) <| xe_dealPop (i := 0) rfl ?_
        try dsimp only [List.set]
        refine xs_seq <| xs_drop <| xe_dealApp (i := 0) ⟨_, _, _, rfl⟩ <| xe_I <| xe_var rfl <| xe_var rfl ⟨_, _, rfl, rfl, divw b0 (by omega), _, _, _, _, rfl, rfl, rfl, by simp at l; omega, ?_⟩
        try dsimp only [List.set]
        refine xs_ret <| xe_I <| xe_callInt <| xe_var rfl ⟨_, rfl, xe_var rfl ⟨_, _, rfl, rfl, b0, ?_⟩⟩
        refine ⟨⟨ks ++ [_], _⟩, rfl, k _ _ (Int.emod_nonneg _ (by omega)) (Int.emod_lt_of_pos _ b0) ⟨n0, n1, by simp at l ⊢; omega, fun x hx => ?_⟩⟩
        rcases List.mem_append.mp hx with z | z
        · exact nn x (by simp [z])
        · rw [List.mem_singleton.mp z]
          exact Int.ediv_nonneg c0 (by omega)
def F_deal : FR := fun ds Φ => ∃ (ns : List Int) (b : Int), ds = [.scr ns, .int b] ∧ ns.length ≤ 63 ∧ 0 ≤ b ∧ b < 10 ∧ ∀ q (y : Dl), DealD y → Φ (.deal q y.cs y.n)
theorem cut_le {α : Type} {xs : List α} {lo hi : Option Int} : (cut xs lo hi).length ≤ xs.length := by
  unfold cut
  rw [List.length_take, List.length_drop]
  omega
theorem cut_map {α β : Type} (f : α → β) (xs : List α) (lo hi : Option Int) : cut (xs.map f) lo hi = (cut xs lo hi).map f := by
  unfold cut
  rw [List.length_map, List.map_take, List.map_drop]
theorem ok_deal (T : Txt K mg a) : FnOk P w K mg base CX0 1 a.f_lw_deal a.fd_lw_deal ["_law_script", "_law_base"] (spR (ZZ K a) F_deal) := by
  refine T.F_lw_deal.ok sc_lw_deal (fun vs H Q E h => ?_) (fun cdv A outer s H vs Q E hr h => ?_)
  · obtain ⟨M, ds, Φ, _, al, ⟨ns, b, rfl, _⟩, _⟩ := h
    exact al.len
  · obtain ⟨M, ds, Φ, ex, al, ⟨ns, b, rfl, l0, b0, b1, fin⟩, q⟩ := h
    refine ⟨_, (pss_cons (ps_setLc (own := [("_law_cell", 3)]) (g := (gName 3)) (tt := tYes) (i := 2) rfl sc_lw_deal.nd rfl rfl (sw_true rfl rfl rfl (by decide +kernel)) (pi_list (pe_slice (show SlR _ (rSlL K) from sl_list) (pv 0) (po_some (pv 1)) (po_some pe_int))) (blkOk_by (N := N_lw_deal) (sc := defScope s_lw_deal) (by decide +kernel)) (fun _ _ _ _ _ => (pg_name (i := 3) sc_lw_deal.nd rfl (Or.inl rfl))) (fun _ _ _ _ _ => pts_nil) (fun _ _ _ _ _ => (pe_callB (id := "abs") call_abs (by rfl) T.n_abs (by decide +kernel) (pa_cons (pv 3) pa_nil))))
      (pss_cons (ps_set (i := 4) sc_lw_deal.nd rfl (Or.inl rfl) (pe_op op_add pe_int (pe_op op_mulW pe_int (pv 1))))
      (pss_cons (ps_for PassesOwn.never rfl (pi_list (pv 2)) (pg_name (i := 3) sc_lw_deal.nd rfl (Or.inl rfl))
      (pss_one (ps_set (i := 4) sc_lw_deal.nd rfl (Or.inl rfl) (pe_op op_mod (pe_callTy call_int1 (by rfl) T.n_int (by decide +kernel) (pa_cons (pe_op op_add (pe_op op_add (pe_op op_mulW (pv 4) pe_int) (pe_op op_mod (pe_callTy call_int1 (by rfl) T.n_int (by decide +kernel) (pa_cons (pv 3) pa_nil)) pe_int)) pe_int) pa_nil)) pe_int))))
      (pss_one (ps_ret (pe_lst (pa_cons (pe_revL (pe_lc (own := [("_law_cell", 3)]) (g := (gName 3))  rfl sc_lw_deal.nd (pi_list (pv 2)) (blkOk_by (N := N_lw_deal) (sc := defScope s_lw_deal) (by decide +kernel)) (fun _ _ _ _ _ => (pg_name (i := 3) sc_lw_deal.nd rfl (Or.inl rfl))) (fun _ _ _ _ _ => pts_one (pt_cmpR op_ge (pv 3) (pe_op op_pow pe_int pe_int) (nomark _))) (fun _ _ _ _ _ => (pv 3)))) (pa_cons (pv 4) pa_nil)))))))), entR (n := 3) ex al rfl q ?_⟩
    walk_at "ent"
    refine xs_seq <| xs_set (by decide) <| xe_ofO <| xo_fg (v := 3) (g := D.int) (f := fun i : Int => D.int (if i < 0 then -i else i)) (p := fun _ => true) <| xi_list <| xe_ofO <| xo_slScr <| xe_var rfl <| xp_part <| xe_var rfl ⟨_, rfl, xp_part <| xe_int ⟨_, rfl, ns, rfl, _, rfl, _, .inl rfl, cut ns (some b) (some 57), cut_map _ _ _ _, rfl, Nat.le_trans cut_le (by omega), fun x hx => xt_yes ⟨rfl, rfl, fun _ => xe_abs <| xe_var rfl ⟨_, rfl, rfl, rfl⟩⟩, ?_⟩⟩
    rw [filter_tt, show (fun i : Int => D.int (if i < 0 then -i else i)) = D.int ∘ (fun i : Int => if i < 0 then -i else i) from rfl, ← List.map_map]
    have c63 : (cut ns (some b) (some 57)).length ≤ 63 := Nat.le_trans cut_le l0
    have cnn : ∀ c ∈ (cut ns (some b) (some 57)).map (fun i : Int => if i < 0 then -i else i), 0 ≤ c := fun c hc => by
      obtain ⟨i, _, rfl⟩ := List.mem_map.mp hc
      exact abs_nn i
    generalize hcs : (cut ns (some b) (some 57)).map (fun i : Int => if i < 0 then -i else i) = cs at cnn
    have cl : cs.length ≤ 63 := by rw [← hcs, List.length_map]; exact c63
    refine ⟨_, rfl, ?_⟩
    try dsimp only [List.set]
    refine xs_seq <| xs_set (by decide) <| xe_I0 <| xe_int <| xe_I <| xe_int <| xe_var rfl ⟨_, _, rfl, rfl, mulw (by omega) (by omega), _, _, rfl, rfl, ?_⟩
    try dsimp only [List.set]
    refine xs_seq <| xs_for (vs := [3]) <| xi_list <| xe_var rfl ⟨_, .inl rfl, ?_⟩
    refine ⟨fun i δ => ∃ (u : Int) (s3 : S), δ = [.d (.scr ns), .d (.int b), .d (.lst (cs.map .int)), s3, .d (.int u)] ∧ 0 ≤ u ∧ u < 2147483647, ⟨_, _, rfl, by omega, by omega⟩, ?_, ?_⟩
    · rintro i d δ1 hi ⟨u, s3, rfl, u0, u1⟩
      obtain ⟨v, hv, rfl⟩ : ∃ v, cs[i]? = some v ∧ D.int v = d := by simpa using hi
      refine xg_name (by decide) (by decide) ?_
      try dsimp only [List.set]
      refine xs_set (by decide) <| xe_I <| xe_callInt <| xe_I0 <| xe_I0 <| xe_I <| xe_var rfl <| xe_int ⟨_, _, rfl, rfl, mulw (by omega) (by omega), xe_I <| xe_callInt <| xe_var rfl ⟨_, rfl, xe_int ⟨_, _, rfl, rfl, by omega, _, _, rfl, rfl, xe_int ⟨_, _, rfl, rfl, _, rfl, xe_int ⟨_, _, rfl, rfl, by omega, _, _, rfl, Int.emod_nonneg _ (by omega), Int.emod_lt_of_pos _ (by omega)⟩⟩⟩⟩⟩
    · rintro δ1 ⟨u, s3, rfl, u0, u1⟩
      refine xs_forget (i := 3) (by decide) ?_
      try dsimp only [List.set]
      refine xs_retS <| xr_deal <| xo_revL <| xe_ofO <| xo_fg (v := 3) (g := D.int) (f := D.int) (p := fun i : Int => decide ((10 : Int) ^ Int.toNat 18 ≤ i)) <| xi_list <| xe_var rfl ⟨_, .inl rfl, cs, rfl, rfl, by omega, fun x hx => xt_test <| xe_B0 <| xe_var rfl ?_, ?_⟩
      · walk_at "xs"
        exact ⟨rfl, rfl, fun _ => xe_var rfl ⟨rfl, rfl⟩⟩
      · refine ⟨_, rfl, _, rfl, (cs.filter fun i : Int => decide ((10 : Int) ^ Int.toNat 18 ≤ i)).reverse, by rw [List.map_reverse], xe_var rfl ⟨u, rfl, fun q => fin q ⟨_, u⟩ ⟨u0, u1, ?_, fun c hc => ?_⟩⟩⟩
        · show (List.reverse _).length ≤ 63
          rw [List.length_reverse]
          exact Nat.le_trans (List.length_filter_le _ _) cl
        · exact cnn c (List.mem_filter.mp (List.mem_reverse.mp hc)).1
/-! ### things drawn -/
def Pl (x : D) : Prop := pla x = true ∧ Lay 4 x
theorem pl_lst {xs : List D} (h : ∀ x ∈ xs, Pl x) : plaL xs = true ∧ SeqAt.shaped (py (.lst xs)) = true := by
  refine ⟨?_, (lay_lst fun x hx => (h x hx).2).shaped (by decide)⟩
  induction xs with
  | nil => rfl
  | cons x xs ih =>
    show (pla x && plaL xs) = true
    rw [(h x (by simp)).1, ih fun y hy => h y (by simp [hy])]; rfl
theorem eqv_nil (xs : List D) : PyData.eqv (py (.lst xs)) (py (.lst [])) = xs.isEmpty := by
  cases xs with
  | nil => rfl
  | cons x xs => rfl
/-- xs != [] -/
theorem xe_neNil {i : Nat} {xs : List D} {δ : List S} {Φ : D → List S → Prop} (hv : δ[i]? = some (.own (.lst xs))) (h : ∀ x ∈ xs, Pl x) (k : Φ (.bl (!xs.isEmpty)) δ) : XE (ZZ K a) (tOp (rNeD (ZZ K a).K) (tVar i) (tLst tNil)) δ Φ := by
  refine xe_neO hv <| xe_ofO <| xo_lst <| xa_nil ⟨by simp, _, rfl, hv, (pl_lst h).1, rfl, (pl_lst h).2, (pl_lst (xs := []) (by simp)).2, ?_⟩
  rw [eqv_nil]; exact k
def F_mixed : FD := fun y ds Φ => ∃ (xs : List D) (d : D), ds = [d] ∧ (d = .lst xs ∨ d = .tup xs) ∧ xs.length ≤ 1000 ∧ (∀ x ∈ xs, Pl x) ∧ DealD y ∧ ∀ ys y', ys.Perm xs → DealD y' → Φ (.own (.lst ys)) y'
theorem ok_mixed (T : Txt K mg a) (G_lw_draw : FnOk P w K mg base CX0 1 a.f_lw_draw a.fd_lw_draw ["_law_deal_here", "_law_bound"] (spD (ZZ K a) F_draw)) : FnOk P w K mg base CX0 2 a.f_lw_mixed a.fd_lw_mixed ["_law_deal_here", "_law_some"] (spD (ZZ K a) F_mixed) := by
  refine T.F_lw_mixed.ok sc_lw_mixed (fun vs H Q E h => ?_) (fun cdv A outer s H vs Q E hr h => ?_)
  · obtain ⟨M, p, q, y, ws, ds, Φ, rfl, _, _, al, ⟨xs, d, rfl, _⟩, _⟩ := h
    simp [al.len]
  · obtain ⟨M, p, q, y, ws, ds, Φ, rfl, so, ex, al, ⟨xs, d, rfl, hd, l0, hpl, hy, k⟩, fin⟩ := h
    refine ⟨_, (pss_cons (ps_par (i := 2) (j := 3) (by rfl) sc_lw_mixed.nd rfl rfl (by decide) rfl rfl (pa_cons (pe_callTy call_list_of (by rfl) T.n_list (by decide +kernel) (pa_cons (pv 1) pa_nil)) (pa_cons (pe_lst pa_nil) pa_nil)) (by rfl))
      (pss_cons (ps_while PassesOwn.never (pt_cmpR (op_neD hr.units) (pv 2) (pe_lst pa_nil) (nomark _)) (pss_one (ps_expr (pe_bm PySem.F.plainAttrs_list PySem.F.slot_list_append PySem.F.type_list_append mt_append (pv 3) (pa_cons (pe_bm PySem.F.plainAttrs_list PySem.F.slot_list_pop PySem.F.type_list_pop mt_popAt (pv 2) (pa_cons (pe_call G_lw_draw (hr.mono (by decide)) (by rfl) T.m_lw_draw T.F_lw_draw.kp T.b_lw_draw .nil pass0 (pa_cons (pv 0) (pa_cons (pe_callB (show CallR _ (.builtin "len") (G.rLen K) from call_len) (by rfl) T.n_len PySem.boot_len (pa_cons (pv 2) pa_nil)) pa_nil))) pa_nil)) pa_nil)))))
      (pss_one (ps_ret (pv 3))))), entD (n := 2) so ex al rfl fin ?_⟩
    walk_at "ent"
    refine xs_seq <| xs_parOO (by decide) (by decide) (by decide) <| xo_list <| xe_var rfl ⟨_, hd, xo_lst <| xa_nil ⟨by simp, by simp, by simp, ?_⟩⟩
    try dsimp only [List.set]
    refine xs_seq <| xs_while (fun m δ => ∃ (y : Dl) (left found : List D), δ = [.deal q y.cs y.n, .d d, .own (.lst left), .own (.lst found)] ∧ left.length = m ∧ (found ++ left).Perm xs ∧ DealD y) ⟨_, y, xs, [], rfl, rfl, by simp, hy⟩ ?_
    rintro m δ1 ⟨y, left, found, rfl, rfl, hp, hy⟩
    have lp := hp.length_eq
    rw [List.length_append] at lp
    refine xt_test <| xe_neNil (i := 2) rfl (fun x hx => hpl x (hp.mem_iff.mp (List.mem_append_right _ hx))) ⟨_, rfl, ?_⟩
    by_cases ne : left = []
    · subst ne
      refine if_ff ?_
      rw [List.append_nil] at hp
      exact xs_retV (by decide) rfl ⟨y, rfl, k found y hp hy⟩
    · have e1 : (!left.isEmpty) = true := by simpa using ne
      rw [e1]
      have lpos : 0 < left.length := List.length_pos_iff.mpr ne
      refine if_tt <| xs_drop <| xe_app ⟨_, rfl⟩ <| xe_pop ⟨_, rfl⟩ <| xr_callD (i := 0) (fun _ => .nil) ⟨_, _, _, rfl⟩ <| xa_cons <| xe_lenO (i := 2) rfl <| xa_nil ⟨q, y, rfl, _, rfl, by omega, by omega, hy, fun dd y' d0 d1 hy' => on_d ?_⟩
      obtain ⟨kk, rfl⟩ : ∃ kk : Nat, dd = kk := ⟨dd.toNat, by omega⟩
      have hk : kk < left.length := by omega
      refine ⟨left, kk, left[kk], rfl, rfl, by omega, by simp [hk], found, rfl, by omega, left.length - 1, by omega, y', left.eraseIdx kk, found ++ [left[kk]], rfl, ?_, ?_, hy'⟩
      · rw [List.length_eraseIdx]
        simp [hk]
      · refine List.Perm.trans ?_ hp
        rw [List.append_assoc]
        exact List.Perm.append_left _ (perm_erase hk)
/-! ### the program: names -/
def letters : Str := "abcdefghijklmnopqrstuvwxyz"
def nmS (s : Str) : Bool := !decide (s = "if") && (decide ((1 : Int) ≤ s.length) && decide ((s.length : Int) ≤ 3)) && s.cps.toList.all fun c => decide (c ∈ letters.cps.toList)
def isNm : D → Bool | .str s => nmS s | _ => false
def ok1 (d : D) : Prop := (∃ t, tyD d = some t) ∧ ∀ s, d = .str s → s.length ≤ sizeLine
def okS (d : D) : Prop := ok1 d ∧ ∀ xs, (d = .lst xs ∨ d = .tup xs) → xs.length ≤ 3000 ∧ ∀ x ∈ xs, ok1 x
def seqOf : D → Option (List D) | .lst xs => some xs | .tup xs => some xs | _ => none
def areNm (d : D) : Bool := match seqOf d with | some xs => xs.all isNm | none => false
def F_is_name : FR := fun ds Φ => ∃ d, ds = [d] ∧ ok1 d ∧ Φ (.d (.bl (isNm d)))
def F_is_sequence : FR := fun ds Φ => ∃ d : D, ds = [d] ∧ (∃ t, tyD d = some t) ∧ Φ (.d (.bl (seqOf d).isSome))
def F_are_names : FR := fun ds Φ => ∃ d, ds = [d] ∧ okS d ∧ Φ (.d (.bl (areNm d)))
def F_lot_of : FR := fun ds Φ => ∃ ws : List Str, (ds = [.tup (ws.map .str)] ∨ ds = [.lst (ws.map .str)]) ∧ ws.length < 4000 ∧ ∀ ys, GS.IsLot ys ws → ys.length ≤ ws.length → Φ (.d (.tup (ys.map .str)))
theorem pool_ok : ∀ n ∈ pool, n.length ≤ sizeLine ∧ nmS n = true ∧ PyData.strOk n = true := by decide +kernel
theorem nms_of : ∀ {xs : List D}, xs.all isNm = true → ∃ ws : List Str, xs = ws.map .str ∧ ∀ w ∈ ws, nmS w = true
  | [], _ => ⟨[], rfl, by simp⟩
  | x :: xs, h => by
    simp only [List.all_cons, Bool.and_eq_true] at h
    obtain ⟨ws, rfl, hw⟩ := nms_of h.2
    cases x with
    | str s => exact ⟨s :: ws, rfl, fun w hw' => by
        rcases List.mem_cons.mp hw' with rfl | q
        · exact h.1
        · exact hw w q⟩
    | _ => cases h.1
theorem areNm_iff {d : D} : areNm d = true ↔ ∃ ws : List Str, (d = .lst (ws.map .str) ∨ d = .tup (ws.map .str)) ∧ ∀ w ∈ ws, nmS w = true := by
  constructor
  · intro h
    unfold areNm at h
    cases d with
    | lst xs => obtain ⟨ws, rfl, hw⟩ := nms_of h; exact ⟨ws, .inl rfl, hw⟩
    | tup xs => obtain ⟨ws, rfl, hw⟩ := nms_of h; exact ⟨ws, .inr rfl, hw⟩
    | _ => cases h
  · rintro ⟨ws, rfl | rfl, hw⟩ <;>
    · simp only [areNm, seqOf, List.all_map, List.all_eq_true]
      exact fun w q => hw w q
theorem ok_is_name (T : Txt K mg a) : FnOk P w K mg base CX0 1 a.f_is_name a.fd_is_name ["value"] (spR (ZZ K a) F_is_name) := by
  refine T.F_is_name.ok sc_is_name (fun vs H Q E h => ?_) (fun cdv A outer s H vs Q E hr h => ?_)
  · obtain ⟨M, ds, Φ, _, al, ⟨n, rfl, _⟩, _⟩ := h
    exact al.len
  · obtain ⟨M, ds, Φ, ex, al, ⟨d, rfl, ⟨⟨t, ht⟩, hs⟩, fin⟩, q⟩ := h
    refine ⟨_, (pss_cons (ps_if (PW.pt (pw_or (pt_not (pt_val (pe_callB call_isi (by rfl) T.n_isinstance (by decide +kernel) (pa_cons (pv 0) (pa_cons (pe_bltn (v := .ty "str") (u := .type "str") (by rfl) T.n_str (by decide +kernel) rfl) pa_nil))))) (pw_or1 (pt_cmpR op_eq (pv 0) pe_str (nomark _))))) (pss_one (ps_ret pe_bl)) pss_nil)
      (pss_one (ps_ret (pe_and (pe_chain op_le op_le pe_int (pe_callB (show CallR _ (.builtin "len") (G.rLen K) from call_len) (by rfl) T.n_len PySem.boot_len (pa_cons (pv 0) pa_nil)) pe_int) (pe_one (pe_callB (cr_all rfl) (by rfl) T.n_all (by decide +kernel) (pa_cons (pe_lc (own := [("letter", 1)]) (g := (gName 1)) (tt := tYes) rfl sc_is_name.nd (pi_str (pv 0)) (blkOk_by (N := N_is_name) (sc := defScope s_is_name) (by decide +kernel)) (fun _ _ _ _ _ => (pg_name (i := 1) sc_is_name.nd rfl (Or.inl rfl))) (fun _ _ _ _ _ => pts_nil) (fun _ _ _ _ _ => (pe_cmpR op_in_sign (pv 1) (pe_gc rfl T.m_LETTERS) rfl))) pa_nil))))))), entR (n := 1) ex al rfl q ?_⟩
    walk_at "ent"
    walk_at "xs"
    by_cases hd : ∃ n, d = .str n
    · obtain ⟨n, rfl⟩ := hd
      cases ht
      have p1 := hs n rfl
      refine ⟨_, true, rfl, rfl, ?_⟩
      walk_at "xs"
      refine xe_eq ?_
      walk_at "xs"
      refine ⟨rfl, _, rfl, ?_⟩
      refine ite_b (fun h => ?_) (fun h0 => ?_)
      · have h := V.str.inj (of_decide_eq_true h)
        subst h
        walk_at "xs"
        walk_at "ret"
        exact fin
      have h0 : decide (n = ("if" : Str)) = false := decide_eq_false fun e => of_decide_eq_false h0 (by rw [e])
      walk_at "xs"
      walk_at "ret"
      refine ⟨_, if_pos p1, ?_⟩
      refine ⟨_, _, rfl, rfl, ?_⟩
      refine ite_b (fun h1 => ?_) (fun h1 => ?_)
      · walk_at "xs"
        refine ite_b (fun h2 => ?_) (fun h2 => ?_)
        · refine xe_all (xe_ofO (xo_fg (g := fun c => D.str ⟨#[c]⟩) (f := fun c => D.bl (decide (c ∈ letters.cps.toList))) (p := fun _ => true) (xi_str ?_)))
          walk_at "xs"
          refine ⟨rfl, ?_, fun c hc => xt_yes ⟨rfl, rfl, fun _ => ?_⟩, _, rfl, n.cps.toList.map fun c => decide (c ∈ letters.cps.toList), by rw [filter_tt, List.map_map]; rfl, ?_⟩
          · have : n.cps.toList.length = n.length := by simp [Str.length]
            have := of_decide_eq_true h2
            omega
          · refine xe_inS ?_
            walk_at "xs"
            exact ⟨rfl, rfl⟩
          · have e : ((n.cps.toList.map fun c => decide (c ∈ letters.cps.toList)).all id) = isNm (.str n) := by
              simp only [isNm, nmS, h0, h1, h2, List.all_map]
              rfl
            rw [e]
            exact fin
        · have e : isNm (.str n) = false := by
            simp only [isNm, nmS, h0, h1, h2]
            rfl
          rw [e] at fin
          exact fin
      · have e : isNm (.str n) = false := by
          simp only [isNm, nmS, h0, h1]
          rfl
        rw [e] at fin
        exact ⟨_, rfl, fin⟩
    · have e : isNm d = false := by
        cases d with
        | str n => exact absurd ⟨n, rfl⟩ hd
        | _ => rfl
      have k : kitB t "str" = some false := by
        cases d with
        | str n => exact absurd ⟨n, rfl⟩ hd
        | obj => cases ht
        | scr => cases ht
        | exc => cases ht
        | dic => cases ht
        | tupF => cases ht
        | tupT => cases ht
        | dicF => cases ht
        | dicT => cases ht
        | ref => cases ht
        | _ => cases ht <;> rfl
      refine ⟨t, false, ht, k, ?_⟩
      walk_at "xs"
      walk_at "ret"
      rw [e] at fin
      exact fin
theorem ok_is_sequence (T : Txt K mg a) : FnOk P w K mg base CX0 1 a.f_is_sequence a.fd_is_sequence ["value"] (spR (ZZ K a) F_is_sequence) := by
  refine T.F_is_sequence.ok sc_is_sequence (fun vs H Q E h => ?_) (fun cdv A outer s H vs Q E hr h => ?_)
  · obtain ⟨M, ds, Φ, _, al, ⟨n, rfl, _⟩, _⟩ := h
    exact al.len
  · obtain ⟨M, ds, Φ, ex, al, ⟨d, rfl, ⟨t, ht⟩, fin⟩, q⟩ := h
    refine ⟨_, (pss_one (ps_ret (pe_callB call_isiT (by rfl) T.n_isinstance (by decide +kernel) (pa_cons (pv 0) (pa_cons (pe_tup (pa_cons (pe_bltn (v := .ty "list") (u := .type "list") (by rfl) T.n_list (by decide +kernel) rfl) (pa_cons (pe_bltn (v := .ty "tuple") (u := .type "tuple") (by rfl) T.n_tuple (by decide +kernel) rfl) pa_nil))) pa_nil))))), entR (n := 0) ex al rfl q ?_⟩
    walk_at "ent"
    walk_at "xs"
    walk_at "ret"
    refine ⟨_, ht, ?_⟩
    have e : (t == "list" || t == "tuple") = (seqOf d).isSome := by cases d <;> cases ht <;> rfl
    rw [e]
    exact fin
theorem ok_are_names (T : Txt K mg a) (G_is_name : FnOk P w K mg base CX0 1 a.f_is_name a.fd_is_name ["value"] (spR (ZZ K a) F_is_name)) (G_is_sequence : FnOk P w K mg base CX0 1 a.f_is_sequence a.fd_is_sequence ["value"] (spR (ZZ K a) F_is_sequence)) : FnOk P w K mg base CX0 2 a.f_are_names a.fd_are_names ["value"] (spR (ZZ K a) F_are_names) := by
  refine T.F_are_names.ok sc_are_names (fun vs H Q E h => ?_) (fun cdv A outer s H vs Q E hr h => ?_)
  · obtain ⟨M, ds, Φ, _, al, ⟨n, rfl, _⟩, _⟩ := h
    exact al.len
  · obtain ⟨M, ds, Φ, ex, al, ⟨d, rfl, ⟨hd, hs⟩, fin⟩, q⟩ := h
    refine ⟨_, (pss_one (ps_ret (pe_and (pe_call G_is_sequence (hr.mono (by decide)) (by rfl) T.m_is_sequence T.F_is_sequence.kp T.b_is_sequence .nil pass0 (pa_cons (pv 0) pa_nil)) (pe_one (pe_callB (cr_all rfl) (by rfl) T.n_all (by decide +kernel) (pa_cons (pe_lc (own := [("thing", 1)]) (g := (gName 1)) (tt := tYes) rfl sc_are_names.nd (G.pi_or (pi_list (pv 0)) (pi_tupK (K := K) rfl (pv 0))) (blkOk_by (N := N_are_names) (sc := defScope s_are_names) (by decide +kernel)) (fun _ _ _ _ _ => (pg_name (i := 1) sc_are_names.nd rfl (Or.inl rfl))) (fun _ _ _ _ _ => pts_nil) (fun _ _ _ _ _ => (pe_call G_is_name (hr.mono (by decide)) (by rfl) T.m_is_name T.F_is_name.kp T.b_is_name .nil pass0 (pa_cons (pv 1) pa_nil)))) pa_nil)))))), entR (n := 1) ex al rfl q ?_⟩
    walk_at "ent"
    walk_at "xs"
    walk_at "ret"
    refine xr_call (fun _ => .nil) ?_
    walk_at "xs"
    refine ⟨hd.1, on_d ⟨_, rfl, ?_⟩⟩
    by_cases hq : ∃ xs, d = .lst xs ∨ d = .tup xs
    · obtain ⟨xs, hx⟩ := hq
      have e1 : seqOf d = some xs := by rcases hx with rfl | rfl <;> rfl
      rw [e1, if_pos (by rfl)]
      obtain ⟨l, hx1⟩ := hs xs hx
      refine xe_all (xe_ofO (xo_fg (g := fun x : D => x) (f := fun x => D.bl (isNm x)) (p := fun _ => true) (xi_seqV rfl hx ?_)))
      refine ⟨xs, by simp, rfl, by omega, fun w hw' => xt_yes ⟨rfl, rfl, fun _ => ?_⟩, _, rfl, ?_⟩
      · refine xr_call (fun _ => .nil) ?_
        walk_at "xs"
        exact ⟨hx1 w hw', on_d ⟨rfl, rfl⟩⟩
      · refine ⟨xs.map isNm, by rw [filter_tt, List.map_map]; rfl, ?_⟩
        have e2 : (xs.map isNm).all id = areNm d := by
          unfold areNm
          rw [e1, List.all_map]
          rfl
        rw [e2]
        exact fin
    · have e1 : seqOf d = none := by
        cases d with
        | lst xs => exact absurd ⟨xs, .inl rfl⟩ hq
        | tup xs => exact absurd ⟨xs, .inr rfl⟩ hq
        | _ => rfl
      have e2 : areNm d = false := by unfold areNm; rw [e1]
      rw [e1, if_neg (by simp)]
      rw [e2] at fin
      exact fin
/-! ### lots as bare tuples -/
theorem wkR {k : Nat} {f : Addr} {fd : FuncData} {ps : List Str} {F F0 : FR} (h : FnOk P w K mg base CX0 k f fd ps (spR (ZZ K a) F)) (g : ∀ ds Φ, F0 ds Φ → F ds fun s => ∃ ys, s = .d (.tupF ys) ∧ Φ (.d (.tup ys))) : FnOk P w K mg base CX0 k f fd ps (spR (ZZ K a) F0) := by
  refine FnOk.imp h fun vs H Q E z => ?_
  obtain ⟨M, ds, Φ, ex, al, f0, q⟩ := z
  refine ⟨M, ds, _, ex, al, g ds Φ f0, fun M' H' v s hs a1 a2 a3 a4 r => ?_⟩
  obtain ⟨ys, rfl, hs⟩ := hs
  exact q M' H' v _ hs a1 a2 a3 a4 (At.wk r)
def F_lot_ofF : FR := fun ds Φ => ∃ ws : List Str, (ds = [.tup (ws.map .str)] ∨ ds = [.lst (ws.map .str)]) ∧ ws.length < 4000 ∧ ∀ ys, GS.IsLot ys ws → ys.length ≤ ws.length → Φ (.d (.tupF (ys.map .str)))
theorem ok_lot_ofF (T : Txt K mg a) : FnOk P w K mg base CX0 1 a.f_lot_of a.fd_lot_of ["names"] (spR (ZZ K a) F_lot_ofF) := by
  refine T.F_lot_of.ok sc_lot_of (fun vs H Q E h => ?_) (fun cdv A outer s H vs Q E hr h => ?_)
  · obtain ⟨M, ds, Φ, _, al, ⟨n, h, _⟩, _⟩ := h
    rcases h with rfl | rfl <;> exact al.len
  · obtain ⟨M, ds, Φ, ex, al, ⟨ws, hd, hl, fin⟩, q⟩ := h
    refine ⟨_, (pss_one (ps_ret (pe_callTy GX.call_tupleF (by rfl) T.n_tuple (by decide +kernel) (pa_cons (pe_callB (GS.cr_sortSet rfl) (by rfl) T.n_sorted (by decide +kernel) (pa_cons (pe_callTy (GS.cr_set rfl) (by rfl) T.n_set (by decide +kernel) (pa_cons (pv 0) pa_nil)) pa_nil)) pa_nil)))), entR (n := 0) ex al (by rcases hd with rfl | rfl <;> rfl) q ?_⟩
    refine xs_ret (xe_tupleF (xe_ofO (xo_lot rfl ?_)))
    rcases hd with rfl | rfl
    · exact xe_var rfl ⟨ws, .inr rfl, hl, fun ys hy hl => ⟨_, rfl, _, rfl, fin ys hy hl⟩⟩
    · exact xe_var rfl ⟨ws, .inl rfl, hl, fun ys hy hl => ⟨_, rfl, _, rfl, fin ys hy hl⟩⟩
theorem ok_lot_of (T : Txt K mg a) : FnOk P w K mg base CX0 1 a.f_lot_of a.fd_lot_of ["names"] (spR (ZZ K a) F_lot_of) := wkR (ok_lot_ofF T) fun ds Φ ⟨ws, h1, h2, h3⟩ => ⟨ws, h1, h2, fun ys hy hl => ⟨_, rfl, h3 ys hy hl⟩⟩
/-! ### rules, with what they refuse -/
def hasD (n g : D) : Bool := match n, seqOf g with | .str s, some xs => xs.any (fun x => match x with | .str t => decide (t = s) | _ => false) | _, _ => false
def badG (n g : D) : Bool := !areNm g || hasD n g
theorem hasD_strs {s : Str} {g : D} {ws : List Str} (h : g = .lst (ws.map .str) ∨ g = .tup (ws.map .str)) : hasD (.str s) g = decide (s ∈ ws) := by
  have e : seqOf g = some (ws.map .str) := by rcases h with rfl | rfl <;> rfl
  unfold hasD
  rw [e]
  show (ws.map D.str).any _ = _
  rw [List.any_map, Bool.eq_iff_iff, List.any_eq_true, decide_eq_true_eq]
  constructor
  · rintro ⟨x, hx, e⟩
    have : x = s := by simpa using e
    exact this ▸ hx
  · exact fun h => ⟨s, h, by simp⟩
def F_Rule_initX : FBX := fun y ds Φ Ξ => ∃ n g : D, y = .ins 0 [] ∧ ds = [n, g] ∧ ok1 n ∧ okS g ∧ (isNm n = false → Ξ 0 (.str "name") y) ∧ (isNm n = true → badG n g = true → Ξ 0 (.str "gone") y) ∧
  ∀ (s : Str) (ws : List Str), n = .str s → (g = .lst (ws.map .str) ∨ g = .tup (ws.map .str)) → isNm n = true → badG n g = false → ∀ lot, GS.IsLot lot ws → Φ (.d .non) (.ins 0 [("name", .str s), ("gone", .tup (lot.map .str))])
theorem ok_Rule_initX (T : Txt K mg a) (G_is_name : FnOk P w K mg base CX0 1 a.f_is_name a.fd_is_name ["value"] (spR (ZZ K a) F_is_name)) (G_are_names : FnOk P w K mg base CX0 2 a.f_are_names a.fd_are_names ["value"] (spR (ZZ K a) F_are_names)) (G_lot_of : FnOk P w K mg base CX0 1 a.f_lot_of a.fd_lot_of ["names"] (spR (ZZ K a) F_lot_of)) : FnOk P w K mg base (L2.CX P w) 3 a.f_Rule_init a.fd_Rule_init ["self", "name", "gone"] (spBX (ZZ K a) F_Rule_initX) := by
  refine T.F_Rule_init.ok sc_Rule_init (fun vs H Q E h => ?_) (fun cdv A outer s H vs Q E hr h => ?_)
  · obtain ⟨M, p, ws', ho, y, ds, Φ, Ξ, rfl, _, _, _, _, al, ⟨n, g, rfl, rfl, _⟩, _⟩ := h
    simp [al.len]
  · obtain ⟨M, p, ws', ho, y, ds, Φ, Ξ, rfl, hp, hm, hy, ex, al, ⟨n, g, rfl, rfl, hn, hg, r1, r2, fin⟩, q, qx⟩ := h
    refine ⟨_, (pss_cons (ps_if (pt_not (pt_val (pe_call G_is_name (hr.mono (by decide)) (by rfl) T.m_is_name T.F_is_name.kp T.b_is_name .nil pass0 (pa_cons (pv 1) pa_nil)))) (pss_one (GX.ps_raiseO rfl (takes_of rfl rfl rfl rfl) T.oe_InvalidRule T.ei_InvalidRule T.et_InvalidRule (ok_InvalidRule_init T) (hr.mono (by decide)) T.b_InvalidRule_init (by rfl) T.m_InvalidRule (pa_cons pe_str pa_nil))) pss_nil)
      (pss_cons (ps_if (PW.pt (pw_or (pt_not (pt_val (pe_call G_are_names (hr.mono (by decide)) (by rfl) T.m_are_names T.F_are_names.kp T.b_are_names .nil pass0 (pa_cons (pv 2) pa_nil)))) (pw_or1 (pt_cmpR (show OpR _ (compareOp .In) (rIn K false) from op_in_seq) (pv 1) (pv 2) rfl)))) (pss_one (GX.ps_raiseO rfl (takes_of rfl rfl rfl rfl) T.oe_InvalidRule T.ei_InvalidRule T.et_InvalidRule (ok_InvalidRule_init T) (hr.mono (by decide)) T.b_InvalidRule_init (by rfl) T.m_InvalidRule (pa_cons pe_str pa_nil))) pss_nil)
      (pss_cons (ps_fld (pv 0) (pv 1) rfl)
      (pss_one (ps_fld (pv 0) (pe_call G_lot_of (hr.mono (by decide)) (by rfl) T.m_lot_of T.F_lot_of.kp T.b_lot_of .nil pass0 (pa_cons (pv 2) pa_nil)) rfl))))), entBX (n := 0) hp hm hy ex al rfl q ?_⟩
    walk_at "ent"
    refine xs_seq <| xs_if <| xt_not <| xt_test <| xr_call (fun _ => .nil) <| xa_cons <| xe_var rfl <| xa_nil ⟨n, rfl, hn, on_d ⟨_, rfl, ite_b (fun c => ?_) (fun c => ?_)⟩⟩
    · have c : isNm n = false := by simpa using c
      exact xs_raise (c := 0) T.oe_InvalidRule T.en_InvalidRule <| xe_str <| xw_B qx rfl (r1 c)
    have c : isNm n = true := by simpa using c
    obtain ⟨s, rfl⟩ : ∃ s, n = .str s := by cases n with | str s => exact ⟨s, rfl⟩ | _ => cases c
    refine xs_next <| xs_seq <| xs_if <| xt_or <| xt_not <| xt_test <| xr_call (fun _ => .nil) <| xa_cons <| xe_var rfl <| xa_nil ⟨g, rfl, hg, on_d ⟨_, rfl, ite_b (fun h => ?_) (fun h => ?_)⟩⟩
    · have h : areNm g = false := by simpa using h
      exact if_tt (xs_raise (c := 0) T.oe_InvalidRule T.en_InvalidRule <| xe_str <| xw_B qx rfl (r2 c (by unfold badG; rw [h]; rfl)))
    have h : areNm g = true := by simpa using h
    obtain ⟨ws, hw, hnw⟩ := areNm_iff.mp h
    have e1 : seqOf g = some (ws.map .str) := by rcases hw with rfl | rfl <;> rfl
    have lw : ws.length ≤ 3000 := by
      have := (hg.2 (ws.map .str) hw).1
      simpa using this
    refine xt_test <| xe_inT <| xe_var rfl <| xe_var rfl ⟨s, ws, rfl, hw, _, rfl, ite_b (fun k => ?_) (fun k => ?_)⟩
    · exact xs_raise (c := 0) T.oe_InvalidRule T.en_InvalidRule <| xe_str <| xw_B qx rfl (r2 c (by unfold badG; rw [hasD_strs hw, k]; simp))
    refine xs_next <| xs_seq <| xs_fldO (c := 0) T.cl_Rule T.no_Rule_name <| xe_var rfl ⟨[], rfl, by decide, ?_⟩
    refine xs_fldO (c := 0) T.cl_Rule T.no_Rule_gone <| xr_call (fun _ => .nil) <| xa_cons <| xe_var rfl <| xa_nil ⟨ws, hw.symm.imp (fun e => by rw [e]; rfl) (fun e => by rw [e]; rfl), by omega, fun lot hlot _ => ?_⟩
    exact ⟨_, rfl, (show (0 : Nat) + 1 < 1000 by decide), _, rfl, fin s ws rfl hw c (by unfold badG; rw [hasD_strs hw, h, k]; rfl) lot hlot⟩
theorem ndR : ((ZZ K a).cl 0).fs.Nodup := (by decide : (["name", "gone"] : List Str).Nodup)
theorem ndM : ((ZZ K a).cl 1).fs.Nodup := (by decide : (["rules", "names"] : List Str).Nodup)
theorem clR (T : Txt K mg a) : ClOk (ZZ K a) 0 := ⟨T.cl_Rule, fun f hf => by
  rcases List.mem_cons.mp hf with rfl | hf
  · exact T.no_Rule_name
  · rw [List.mem_singleton.mp hf]; exact T.no_Rule_gone⟩
theorem clM (T : Txt K mg a) : ClOk (ZZ K a) 1 := ⟨T.cl_Room, fun f hf => by
  rcases List.mem_cons.mp hf with rfl | hf
  · exact T.no_Room_rules
  · rw [List.mem_singleton.mp hf]; exact T.no_Room_names⟩
theorem xe_rname (T : Txt K mg a) {ta : TE} {δ : List S} {Φ : D → List S → Prop} (h : XE (ZZ K a) ta δ fun x δ1 => ∃ n g, x = .obj 0 [n, g] ∧ Φ n δ1) : XE (ZZ K a) (tFld K ta "name") δ Φ := xe_fld (XR.imp h fun s δ' k => by
  cases s with
  | d x => obtain ⟨n, g, rfl, f⟩ := k; exact ⟨0, _, 0, _, rfl, clR T, ndR (K := K), rfl, rfl, f⟩
  | no => exact k
  | own y => exact k
  | deal _ _ _ => exact k)
theorem xe_rgone (T : Txt K mg a) {ta : TE} {δ : List S} {Φ : D → List S → Prop} (h : XE (ZZ K a) ta δ fun x δ1 => ∃ n g, x = .obj 0 [n, g] ∧ Φ g δ1) : XE (ZZ K a) (tFld K ta "gone") δ Φ := xe_fld (XR.imp h fun s δ' k => by
  cases s with
  | d x => obtain ⟨n, g, rfl, f⟩ := k; exact ⟨0, _, 1, _, rfl, clR T, ndR (K := K), rfl, rfl, f⟩
  | no => exact k
  | own y => exact k
  | deal _ _ _ => exact k)
theorem xe_mrules (T : Txt K mg a) {ta : TE} {δ : List S} {Φ : D → List S → Prop} (h : XE (ZZ K a) ta δ fun x δ1 => ∃ n g, x = .obj 1 [n, g] ∧ Φ n δ1) : XE (ZZ K a) (tFld K ta "rules") δ Φ := xe_fld (XR.imp h fun s δ' k => by
  cases s with
  | d x => obtain ⟨n, g, rfl, f⟩ := k; exact ⟨1, _, 0, _, rfl, clM T, ndM (K := K), rfl, rfl, f⟩
  | no => exact k
  | own y => exact k
  | deal _ _ _ => exact k)
theorem xe_mnames (T : Txt K mg a) {ta : TE} {δ : List S} {Φ : D → List S → Prop} (h : XE (ZZ K a) ta δ fun x δ1 => ∃ n g, x = .obj 1 [n, g] ∧ Φ g δ1) : XE (ZZ K a) (tFld K ta "names") δ Φ := xe_fld (XR.imp h fun s δ' k => by
  cases s with
  | d x => obtain ⟨n, g, rfl, f⟩ := k; exact ⟨1, _, 1, _, rfl, clM T, ndM (K := K), rfl, rfl, f⟩
  | no => exact k
  | own y => exact k
  | deal _ _ _ => exact k)
def ruleO (r : Str × List Str) : D := .obj 0 [.str r.1, .tup (r.2.map .str)]
/-! ### who may leave, who can leave -/
abbrev Rl := Str × List Str
def mayS (os : List Rl) (gs : List Str) : List Str := (os.filter fun r => !decide (r.1 ∈ gs) && r.2.all fun w => decide (w ∈ gs)).map (·.1)
theorem mem_may {os : List Rl} {gs : List Str} {x : Str} : x ∈ mayS os gs ↔ x ∉ gs ∧ ∃ ws, (x, ws) ∈ os ∧ ∀ w ∈ ws, w ∈ gs := by
  simp only [mayS, List.mem_map, List.mem_filter, Bool.and_eq_true, Bool.not_eq_true', decide_eq_false_iff_not, List.all_eq_true, decide_eq_true_eq]
  constructor
  · rintro ⟨⟨n, ws⟩, ⟨h1, h2, h3⟩, rfl⟩
    exact ⟨h2, ws, h1, h3⟩
  · rintro ⟨h1, ws, h2, h3⟩
    exact ⟨(x, ws), ⟨h2, h1, h3⟩, rfl⟩
inductive Run (os : List Rl) (st : List Str) : List Str → List Str → Prop
  | refl (g : List Str) : Run os st g g
  | step {g l : List Str} {x : Str} : Run os st g l → x ∈ mayS os l → x ∉ st → Run os st g (l ++ [x])
structure Leav (os : List Rl) (st g l : List Str) : Prop where
  run : Run os st g l
  stop : ∀ x ∈ mayS os l, x ∈ st
theorem Run.sub {os : List Rl} {st g l : List Str} (h : Run os st g l) : ∀ x ∈ g, x ∈ l := by
  induction h with
  | refl => exact fun x h => h
  | step _ _ _ ih => exact fun x h => List.mem_append_left _ (ih x h)
theorem Run.stays {os : List Rl} {st g l : List Str} (h : Run os st g l) : ∀ x ∈ l, x ∈ g ∨ x ∉ st := by
  induction h with
  | refl => exact fun x h => .inl h
  | step _ _ hs ih => exact fun x h => (List.mem_append.mp h).elim (ih x) fun q => .inr (by rw [List.mem_singleton.mp q]; exact hs)
theorem Run.named {os : List Rl} {st g l : List Str} (h : Run os st g l) : ∀ x ∈ l, x ∈ g ∨ ∃ ws, (x, ws) ∈ os := by
  induction h with
  | refl => exact fun x h => .inl h
  | step _ hm _ ih => exact fun x h => (List.mem_append.mp h).elim (ih x) fun q => .inr (by rw [List.mem_singleton.mp q]; exact (mem_may.mp hm).2.imp fun ws h => h.1)
theorem Run.nodup {os : List Rl} {st g l : List Str} (h : Run os st g l) (n : g.Nodup) : l.Nodup := by
  induction h with
  | refl => exact n
  | step _ hm _ ih =>
    refine List.nodup_append.mpr ⟨ih, by simp, fun x hx y hy e => ?_⟩
    rw [List.mem_singleton.mp hy] at e
    exact (mem_may.mp hm).1 (e ▸ hx)
theorem Run.mono {os : List Rl} {st st' g l : List Str} (h : Run os st g l) (k : ∀ x ∈ l, x ∈ g ∨ x ∉ st') : Run os st' g l := by
  induction h with
  | refl => exact .refl _
  | @step l x r hm hs ih =>
    refine .step (ih fun y hy => k y (List.mem_append_left _ hy)) hm ?_
    rcases k x (by simp) with q | q
    · exact absurd (r.sub x q) (mem_may.mp hm).1
    · exact q
theorem Run.trans {os : List Rl} {st g l m : List Str} (h : Run os st g l) (k : Run os st l m) : Run os st g m := by
  induction k with
  | refl => exact h
  | step _ hm hs ih => exact .step ih hm hs
/-- no one gets further than those who stop -/
theorem Leav.top {os : List Rl} {st st' g g' l m : List Str} (h : Leav os st g l) (r : Run os st' g' m) (hg : ∀ x ∈ g', x ∈ l) (hs : ∀ x ∈ st, x ∈ st') : ∀ x ∈ m, x ∈ l := by
  induction r with
  | refl => exact hg
  | step _ hm hn ih =>
    intro y hy
    rcases List.mem_append.mp hy with q | q
    · exact ih y q
    · rw [List.mem_singleton.mp q]
      rename_i x _
      by_cases c : x ∈ l
      · exact c
      · obtain ⟨_, ws, h1, h2⟩ := mem_may.mp hm
        exact absurd (hs x (h.stop x (mem_may.mpr ⟨c, ws, h1, fun w hw => ih w (h2 w hw)⟩))) hn
theorem Leav.same {os : List Rl} {st g l m : List Str} (h : Leav os st g l) (k : Leav os st g m) : ∀ x, x ∈ l ↔ x ∈ m := fun x =>
  ⟨k.top h.run (fun y hy => k.run.sub y hy) (fun _ q => q) x, h.top k.run (fun y hy => h.run.sub y hy) (fun _ q => q) x⟩
/-- some who may leave do, all at once -/
theorem Run.batch {os : List Rl} {st g : List Str} : ∀ {fs l : List Str}, Run os st g l → fs.Nodup → (∀ x ∈ fs, x ∈ mayS os l ∧ x ∉ st) → Run os st g (l ++ fs)
  | [], l, r, _, _ => by simpa using r
  | x :: fs, l, r, n, h => by
    obtain ⟨n1, n2⟩ := List.nodup_cons.mp n
    obtain ⟨hx, hs⟩ := h x (by simp)
    have := Run.batch (fs := fs) (.step r hx hs) n2 fun y hy => by
      obtain ⟨hy1, hy2⟩ := h y (List.mem_cons_of_mem _ hy)
      obtain ⟨a, ws, b, c⟩ := mem_may.mp hy1
      refine ⟨mem_may.mpr ⟨fun q => ?_, ws, b, fun w hw => List.mem_append_left _ (c w hw)⟩, hy2⟩
      rcases List.mem_append.mp q with q | q
      · exact a q
      · rw [List.mem_singleton.mp q] at hy
        exact n1 hy
    simpa using this
theorem filter_lt {p q : Str → Bool} (h : ∀ x, p x = true → q x = true) : ∀ {xs : List Str} {f : Str}, f ∈ xs → q f = true → p f = false → (xs.filter p).length < (xs.filter q).length
  | x :: xs, f, hf, hq, hp => by
    have le : (xs.filter p).length ≤ (xs.filter q).length := by
      clear hf
      induction xs with
      | nil => simp
      | cons y ys ih =>
        simp only [List.filter_cons]
        by_cases c : p y = true
        · rw [if_pos c, if_pos (h y c)]; simpa using ih
        · rw [if_neg c]; split
          · exact Nat.le_trans ih (by simp)
          · exact ih
    simp only [List.filter_cons]
    rcases List.mem_cons.mp hf with rfl | hf
    · rw [if_pos hq, if_neg (by rw [hp]; exact Bool.false_ne_true)]
      simp only [List.length_cons]; omega
    · have := filter_lt h hf hq hp
      by_cases c : p x = true
      · rw [if_pos c, if_pos (h x c)]; simpa using this
      · rw [if_neg c]; split
        · exact Nat.lt_trans this (by simp)
        · exact this
def wantAll (os : List Rl) : List Str := os.flatMap fun r => r.1 :: r.2
theorem mem_wantAll {os : List Rl} {x : Str} : x ∈ wantAll os ↔ ∃ r ∈ os, x = r.1 ∨ x ∈ r.2 := by
  simp [wantAll, List.mem_flatMap]
structure RoomOk (os : List Rl) (ns : List Str) : Prop where
  lot : GS.IsLot ns (wantAll os)
  l : os.length ≤ 200
  w : ∀ r ∈ os, r.2.length ≤ 14
  a : ∀ r ∈ os, GS.Asc r.2
def IsHull (os : List Rl) (ns st hs : List Str) : Prop := ∃ l, Leav os st [] l ∧ hs = ns.filter fun x => !decide (x ∈ l)
theorem IsHull.uniq {os : List Rl} {ns st hs hs' : List Str} (h : IsHull os ns st hs) (k : IsHull os ns st hs') : hs = hs' := by
  obtain ⟨l, h1, rfl⟩ := h
  obtain ⟨m, k1, rfl⟩ := k
  refine List.filter_congr fun x _ => ?_
  rw [decide_eq_decide.mpr (h1.same k1 x)]
theorem nodup_len : ∀ {l ss : List Str}, l.Nodup → (∀ x ∈ l, x ∈ ss) → l.length ≤ ss.length
  | [], _, _, _ => Nat.zero_le _
  | x :: l, ss, nd, h => by
    obtain ⟨n1, n2⟩ := List.nodup_cons.mp nd
    have hx := h x (by simp)
    have := nodup_len (l := l) (ss := ss.erase x) n2 fun y hy => (List.mem_erase_of_ne (fun e => n1 (by rw [← e]; exact hy))).mpr (h y (List.mem_cons_of_mem _ hy))
    rw [List.length_erase_of_mem hx] at this
    have := List.length_pos_of_mem hx
    simp only [List.length_cons]; omega
theorem wantAll_len {os : List Rl} (h : ∀ r ∈ os, r.2.length ≤ 14) : (wantAll os).length ≤ 15 * os.length := by
  unfold wantAll
  induction os with
  | nil => simp
  | cons r os ih =>
    have := ih fun q hq => h q (List.mem_cons_of_mem _ hq)
    have := h r (by simp)
    simp only [List.flatMap_cons, List.length_append, List.length_cons]
    omega
theorem RoomOk.len {os : List Rl} {ns : List Str} (h : RoomOk os ns) : ns.length ≤ 3000 := by
  have := nodup_len (GS.Asc.nodup h.lot.asc) fun x hx => (h.lot.mem x).mp hx
  have := wantAll_len h.w
  have := h.l
  omega
theorem RoomOk.name {os : List Rl} {ns : List Str} (h : RoomOk os ns) {x : Str} {ws : List Str} (hx : (x, ws) ∈ os) : x ∈ ns := (h.lot.mem x).mpr (mem_wantAll.mpr ⟨_, hx, .inl rfl⟩)
theorem RoomOk.want {os : List Rl} {ns : List Str} (h : RoomOk os ns) {x y : Str} {ws : List Str} (hx : (x, ws) ∈ os) (hy : y ∈ ws) : y ∈ ns := (h.lot.mem y).mpr (mem_wantAll.mpr ⟨_, hx, .inr hy⟩)
def roomD (os : List Rl) (ns : List Str) : D := .obj 1 [.tup (os.map ruleO), .tup (ns.map .str)]
/-! ### hulls -/
theorem IsHull.mem {os : List Rl} {ns st hs : List Str} (h : IsHull os ns st hs) : ∀ x ∈ hs, x ∈ ns := by
  obtain ⟨l, _, rfl⟩ := h
  exact fun x hx => (List.mem_filter.mp hx).1
theorem IsHull.asc {os : List Rl} {ns st hs : List Str} (ok : RoomOk os ns) (h : IsHull os ns st hs) : GS.Asc hs := by
  obtain ⟨l, _, rfl⟩ := h
  exact ok.lot.asc.filter _
theorem IsHull.has {os : List Rl} {ns st hs : List Str} (h : IsHull os ns st hs) {x : Str} (hx : x ∈ st) (hn : x ∈ ns) : x ∈ hs := by
  obtain ⟨l, h1, rfl⟩ := h
  refine List.mem_filter.mpr ⟨hn, ?_⟩
  simp only [Bool.not_eq_true', decide_eq_false_iff_not]
  exact fun q => (h1.run.stays x q).elim (by simp) fun k => k hx
/-- more who stay, more who are kept -/
theorem IsHull.grow {os : List Rl} {ns st st' hs hs' : List Str} (h : IsHull os ns st hs) (k : IsHull os ns st' hs') (s : ∀ x ∈ st, x ∈ st') : ∀ x ∈ hs, x ∈ hs' := by
  obtain ⟨l, h1, rfl⟩ := h
  obtain ⟨m, k1, rfl⟩ := k
  intro x hx
  obtain ⟨a, b⟩ := List.mem_filter.mp hx
  refine List.mem_filter.mpr ⟨a, ?_⟩
  simp only [Bool.not_eq_true', decide_eq_false_iff_not] at b ⊢
  exact fun q => b (h1.top k1.run (by simp) s x q)
/-- who is outside can be gone -/
theorem IsHull.out {os : List Rl} {ns st hs ws : List Str} (ok : RoomOk os ns) (h : IsHull os ns st hs) (hw : ∀ x, x ∈ ws ↔ x ∈ ns ∧ x ∉ hs) (nw : ws.Nodup) : ∃ l, Leav os (ns.filter fun n => !decide (n ∈ ws)) [] l ∧ l.length = ws.length := by
  obtain ⟨l, h1, rfl⟩ := h
  have hl : ∀ x, x ∈ l ↔ x ∈ ws := fun x => by
    rw [hw]
    simp only [List.mem_filter, Bool.not_eq_true', decide_eq_false_iff_not, not_and, Classical.not_not]
    refine ⟨fun q => ?_, fun q => q.2 q.1⟩
    rcases h1.run.named x q with c | ⟨us, c⟩
    · cases c
    · exact ⟨ok.name c, fun _ => q⟩
  refine ⟨l, ⟨h1.run.mono fun x q => .inr fun c => ?_, fun x q => ?_⟩, Nat.le_antisymm (nodup_len (h1.run.nodup .nil) fun x => (hl x).mp) (nodup_len nw fun x => (hl x).mpr)⟩
  · have := (List.mem_filter.mp c).2
    simp [(hl x).mp q] at this
  · obtain ⟨a, us, b, _⟩ := mem_may.mp q
    refine List.mem_filter.mpr ⟨ok.name b, ?_⟩
    simp only [Bool.not_eq_true', decide_eq_false_iff_not]
    exact fun c => a ((hl x).mpr c)
/-- each rule for somebody stuck wants somebody stuck -/
theorem IsHull.keep {os : List Rl} {ns hs : List Str} (ok : RoomOk os ns) (h : IsHull os ns [] hs) : ∀ r ∈ os, r.1 ∈ hs → ∃ x ∈ r.2, x ∈ hs := by
  obtain ⟨l, h1, rfl⟩ := h
  rintro ⟨n, us⟩ hr hn
  have hn := (List.mem_filter.mp hn).2
  simp only [Bool.not_eq_true', decide_eq_false_iff_not] at hn
  refine Classical.byContradiction fun c => ?_
  have := h1.stop n (mem_may.mpr ⟨hn, us, hr, fun w hw => ?_⟩)
  · cases this
  · refine Classical.byContradiction fun d => c ⟨w, hw, List.mem_filter.mpr ⟨ok.want hr hw, by simpa using d⟩⟩
/-! ### orders -/
def Steps (rs : List Rl) (o : List Str) : Prop := ∀ (i : Nat) (x : Str), o[i]? = some x → x ∈ mayS rs (o.take i)
section
variable {rs os : List Rl} {ns o : List Str} {x : Str}
theorem Steps.nil : Steps rs [] := fun i x h => by simp at h
theorem Steps.snoc (h : Steps rs o) (hx : x ∈ mayS rs o) : Steps rs (o ++ [x]) := fun i y hy => by
  rcases Nat.lt_or_ge i o.length with q | q
  · rw [List.getElem?_append_left q] at hy
    rw [List.take_append_of_le_length (Nat.le_of_lt q)]
    exact h i y hy
  · rw [List.getElem?_append_right q] at hy
    have hi : i - o.length = 0 := by
      rcases Nat.eq_zero_or_pos (i - o.length) with z | z
      · exact z
      · rw [List.getElem?_eq_none (by simp; omega)] at hy; cases hy
    rw [hi] at hy
    cases hy
    have : i = o.length := by omega
    subst this
    simpa using hx
theorem Steps.take (h : Steps rs o) (k : Nat) : Steps rs (o.take k) := fun i y hy => by
  rw [List.getElem?_take] at hy
  split at hy
  · rename_i q
    rw [List.take_take, Nat.min_eq_left (Nat.le_of_lt q)]
    exact h i y hy
  · cases hy
theorem Steps.next (h : Steps rs (o.take k)) (hx : o[k]? = some x) (hm : x ∈ mayS rs (o.take k)) : Steps rs (o.take (k + 1)) := by
  rw [GS.take_get hx]; exact h.snoc hm
theorem Steps.nodup (h : Steps rs o) : o.Nodup := by
  rw [List.nodup_iff_pairwise_ne, List.pairwise_iff_getElem]
  intro i j hi hj hij e
  have := (mem_may.mp (h j _ (List.getElem?_eq_getElem hj))).1
  exact this (List.mem_of_getElem? (i := i) (by rw [List.getElem?_take, if_pos hij, List.getElem?_eq_getElem hi, e]))
theorem Steps.run (h : Steps rs o) : ∀ (k : Nat), Run rs [] [] (o.take k)
  | 0 => .refl _
  | k + 1 => by
    cases e : o[k]? with
    | none =>
      have hk := List.getElem?_eq_none_iff.mp e
      rw [List.take_of_length_le (by omega), ← List.take_of_length_le (i := k) hk]
      exact h.run k
    | some x =>
      rw [GS.take_get e]
      exact .step (h.run k) (h k x e) (by simp)
theorem Steps.mem (h : Steps rs o) (hx : x ∈ o) : ∃ ws, (x, ws) ∈ rs := by
  obtain ⟨i, hi⟩ := List.mem_iff_getElem?.mp hx
  obtain ⟨_, ws, q, _⟩ := mem_may.mp (h i x hi)
  exact ⟨ws, q⟩
end
/-! ### lots as numbers -/
def nbv : List Str → (Str → Bool) → Nat
  | [], _ => 0
  | x :: ns, p => (if p x = true then 1 else 0) + 2 * nbv ns p
def bitAt (ns : List Str) (p : Str → Bool) (i : Nat) : Bool := match ns[i]? with | some x => p x | none => false
theorem nbv_bit : ∀ {ns : List Str} {p : Str → Bool} {i : Nat}, (nbv ns p).testBit i = bitAt ns p i
  | [], p, i => by simp [nbv, bitAt]
  | x :: ns, p, 0 => by
    show ((if p x = true then 1 else 0) + 2 * nbv ns p).testBit 0 = p x
    rw [Nat.testBit_zero]
    cases h : p x
    · simp
    · have : (1 + 2 * nbv ns p) % 2 = 1 := by omega
      simp [this]
  | x :: ns, p, i + 1 => by
    show ((if p x = true then 1 else 0) + 2 * nbv ns p).testBit (i + 1) = bitAt ns p i
    rw [Nat.testBit_succ, show ((if p x = true then 1 else 0) + 2 * nbv ns p) / 2 = nbv ns p from by split <;> omega, nbv_bit]
theorem nbv_lt : ∀ {ns : List Str} {p : Str → Bool}, nbv ns p < 2 ^ ns.length
  | [], p => by simp [nbv]
  | x :: ns, p => by
    have := nbv_lt (ns := ns) (p := p)
    show (if p x = true then 1 else 0) + 2 * nbv ns p < 2 ^ (ns.length + 1)
    rw [Nat.pow_succ]
    split <;> omega
theorem nbv_congr {ns : List Str} {p q : Str → Bool} (h : ∀ x ∈ ns, p x = q x) : nbv ns p = nbv ns q := by
  induction ns with
  | nil => rfl
  | cons x ns ih =>
    show (if p x = true then 1 else 0) + 2 * nbv ns p = (if q x = true then 1 else 0) + 2 * nbv ns q
    rw [h x (by simp), ih fun y hy => h y (by simp [hy])]
theorem nbv_ext {ns : List Str} {p q : Str → Bool} : nbv ns p = nbv ns q ↔ ∀ x ∈ ns, p x = q x := by
  refine ⟨fun e x hx => ?_, nbv_congr⟩
  obtain ⟨i, hi⟩ := List.mem_iff_getElem?.mp hx
  have h1 := nbv_bit (ns := ns) (p := p) (i := i)
  have h2 := nbv_bit (ns := ns) (p := q) (i := i)
  rw [e, h2] at h1
  unfold bitAt at h1
  rw [hi] at h1
  exact h1.symm
theorem nbv_and {ns : List Str} {p q : Str → Bool} : nbv ns p &&& nbv ns q = nbv ns fun x => p x && q x := Nat.eq_of_testBit_eq fun i => by
  rw [Nat.testBit_and, nbv_bit, nbv_bit, nbv_bit]; unfold bitAt; cases ns[i]? <;> rfl
theorem nbv_or {ns : List Str} {p q : Str → Bool} : nbv ns p ||| nbv ns q = nbv ns fun x => p x || q x := Nat.eq_of_testBit_eq fun i => by
  rw [Nat.testBit_or, nbv_bit, nbv_bit, nbv_bit]; unfold bitAt; cases ns[i]? <;> rfl
theorem nbv_none : ∀ {ns : List Str}, nbv ns (fun _ => false) = 0
  | [] => rfl
  | x :: ns => by
    show (if false = true then 1 else 0) + 2 * nbv ns (fun _ => false) = 0
    rw [nbv_none]; rfl
theorem nbv_zero {ns : List Str} {p : Str → Bool} : nbv ns p = 0 ↔ ∀ x ∈ ns, p x = false := by
  rw [← nbv_none (ns := ns), nbv_ext]
/-- the number of some of ns -/
def bo (ns o : List Str) : Nat := nbv ns fun x => decide (x ∈ o)
theorem bo_nil {ns : List Str} : bo ns [] = 0 := nbv_zero.mpr fun x _ => by simp
theorem bo_lt {ns o : List Str} : bo ns o < 2 ^ ns.length := nbv_lt
theorem bo_ext {ns o q : List Str} : bo ns o = bo ns q ↔ ∀ x ∈ ns, x ∈ o ↔ x ∈ q := by
  unfold bo
  rw [nbv_ext]
  exact ⟨fun h x hx => by simpa using h x hx, fun h x hx => by simpa using h x hx⟩
theorem bo_cons : ∀ {ns S : List Str} {x : Str}, ns.Nodup → x ∈ ns → x ∉ S → bo ns (x :: S) = 2 ^ ns.idxOf x + bo ns S
  | y :: ns, S, x, nd, hx, hS => by
    obtain ⟨n1, n2⟩ := List.nodup_cons.mp nd
    show (if decide (y ∈ x :: S) = true then 1 else 0) + 2 * nbv ns (fun z => decide (z ∈ x :: S)) = 2 ^ (y :: ns).idxOf x + ((if decide (y ∈ S) = true then 1 else 0) + 2 * nbv ns (fun z => decide (z ∈ S)))
    by_cases e : y = x
    · subst e
      rw [nbv_congr (p := fun z => decide (z ∈ y :: S)) (q := fun z => decide (z ∈ S)) fun z hz => by
        have : z ≠ y := fun e => n1 (e ▸ hz)
        simp [this]]
      simp [hS]
    · have hx' : x ∈ ns := by
        rcases List.mem_cons.mp hx with h | h
        · exact absurd h.symm e
        · exact h
      have ih := bo_cons n2 hx' hS
      unfold bo at ih
      have : (decide (y ∈ x :: S)) = decide (y ∈ S) := by simp [e]
      rw [ih, this, List.idxOf_cons, show (y == x) = false from beq_eq_false_iff_ne.mpr e]
      show _ = 2 ^ (List.idxOf x ns + 1) + _
      rw [Nat.pow_succ]
      omega
theorem bo_sum {ns : List Str} (nd : ns.Nodup) : ∀ {S : List Str}, S.Nodup → (∀ x ∈ S, x ∈ ns) → (S.map fun x => 2 ^ ns.idxOf x).sum = bo ns S
  | [], _, _ => bo_nil.symm
  | x :: S, n, h => by
    obtain ⟨n1, n2⟩ := List.nodup_cons.mp n
    rw [List.map_cons, List.sum_cons, bo_sum nd n2 fun y hy => h y (by simp [hy]), bo_cons nd (h x (by simp)) n1]
/-- how many bits a small number has -/
def pc (g : Nat) : Nat := ((List.range 7).filter fun i => g.testBit i).length
theorem few_pc : ∀ n < 20, ((List.range 128).filter fun g => decide (pc g = n)).length ≤ 35 := by decide +kernel
theorem pc_bo {ns o : List Str} (nd : ns.Nodup) (l : ns.length ≤ 7) (no : o.Nodup) (sub : ∀ x ∈ o, x ∈ ns) : pc (bo ns o) = o.length := by
  have e : ∀ i, i ∈ (List.range 7).filter (fun i => (bo ns o).testBit i) ↔ i ∈ o.map fun x => ns.idxOf x := fun i => by
    rw [List.mem_filter, List.mem_map]
    unfold bo
    rw [nbv_bit]
    unfold bitAt
    constructor
    · rintro ⟨_, h⟩
      cases hi : ns[i]? with
      | none => rw [hi] at h; cases h
      | some x =>
        rw [hi] at h
        refine ⟨x, by simpa using h, ?_⟩
        obtain ⟨lt, e⟩ := List.getElem?_eq_some_iff.mp hi
        rw [← e]
        exact List.Nodup.idxOf_getElem nd i lt
    · rintro ⟨x, hx, rfl⟩
      have lt := List.idxOf_lt_length_of_mem (sub x hx)
      refine ⟨by simp; omega, ?_⟩
      rw [List.getElem?_eq_getElem lt, List.getElem_idxOf lt]
      simpa using hx
  have n1 : ((List.range 7).filter (fun i => (bo ns o).testBit i)).Nodup := List.nodup_range.filter _
  have n2 : (o.map fun x => ns.idxOf x).Nodup := by
    refine List.pairwise_map.mpr (no.imp_of_mem fun {x y} hx hy ne e => ne ?_)
    have lx := List.idxOf_lt_length_of_mem (sub x hx)
    have ly := List.idxOf_lt_length_of_mem (sub y hy)
    rw [← List.getElem_idxOf lx, ← List.getElem_idxOf ly]
    simp only [e]
  have p := (List.perm_ext_iff_of_nodup n1 n2).mpr e
  unfold pc
  rw [p.length_eq, List.length_map]
/-! ### lots that can be gone, as numbers -/
theorem may_ext {os : List Rl} {g h : List Str} (e : ∀ x, x ∈ g ↔ x ∈ h) {x : Str} : x ∈ mayS os g ↔ x ∈ mayS os h := by
  rw [mem_may, mem_may, e x]
  exact and_congr_right fun _ => ⟨fun ⟨ws, h1, h2⟩ => ⟨ws, h1, fun w hw => (e w).mp (h2 w hw)⟩, fun ⟨ws, h1, h2⟩ => ⟨ws, h1, fun w hw => (e w).mpr (h2 w hw)⟩⟩
theorem Steps.init {os : List Rl} {o : List Str} {x : Str} (h : Steps os (o ++ [x])) : Steps os o ∧ x ∈ mayS os o := by
  refine ⟨by simpa using h.take o.length, ?_⟩
  have := h o.length x (by simp)
  simpa using this
/-- a room with few names, all of them known -/
structure Few (os : List Rl) (ns : List Str) : Prop where
  a : GS.Asc ns
  m : ∀ r ∈ os, ∀ w ∈ r.1 :: r.2, w ∈ ns
  s : ns.length ≤ 7
  l : os.length ≤ 200
  f : ∀ r ∈ os, r.2.length ≤ 14 ∧ r.2.Nodup
section
variable {os : List Rl} {ns : List Str}
theorem Few.nd (h : Few os ns) : ns.Nodup := GS.Asc.nodup h.a
theorem Few.sub (h : Few os ns) {o : List Str} (st : Steps os o) : ∀ x ∈ o, x ∈ ns := fun x hx => by
  obtain ⟨ws, hw⟩ := st.mem hx
  exact h.m _ hw x (by simp)
theorem Few.len (h : Few os ns) {o : List Str} (st : Steps os o) : o.length ≤ ns.length := nodup_len st.nodup (h.sub st)
theorem Few.pcs (h : Few os ns) {o : List Str} (st : Steps os o) : pc (bo ns o) = o.length := pc_bo h.nd h.s st.nodup (h.sub st)
theorem Few.same (h : Few os ns) {o q : List Str} (st : Steps os o) (sq : Steps os q) (e : bo ns o = bo ns q) : ∀ x, x ∈ o ↔ x ∈ q := fun x =>
  ⟨fun hx => ((bo_ext.mp e) x (h.sub st x hx)).mp hx, fun hx => ((bo_ext.mp e) x (h.sub sq x hx)).mpr hx⟩
/-- g is the number of a lot of n who can be gone -/
def LotN (os : List Rl) (ns : List Str) (n g : Nat) : Prop := ∃ o, Steps os o ∧ o.length = n ∧ bo ns o = g
/-- l is one more than g -/
def AftN (os : List Rl) (ns : List Str) (g l : Nat) : Prop := ∃ o x, Steps os (o ++ [x]) ∧ bo ns o = g ∧ bo ns (o ++ [x]) = l
theorem Few.aft (h : Few os ns) {o : List Str} (st : Steps os o) {l : Nat} : AftN os ns (bo ns o) l ↔ ∃ x ∈ mayS os o, bo ns (o ++ [x]) = l := by
  constructor
  · rintro ⟨q, x, sq, e, rfl⟩
    obtain ⟨s1, m1⟩ := sq.init
    have same := h.same s1 st e
    refine ⟨x, (may_ext same).mp m1, bo_ext.mpr fun y _ => ?_⟩
    rw [List.mem_append, List.mem_append, same]
  · rintro ⟨x, hx, rfl⟩
    exact ⟨o, x, st.snoc hx, rfl, rfl⟩
theorem Few.next (h : Few os ns) {n l : Nat} : LotN os ns (n + 1) l ↔ ∃ g, LotN os ns n g ∧ AftN os ns g l := by
  constructor
  · rintro ⟨o, st, hl, rfl⟩
    rcases List.eq_nil_or_concat o with e | ⟨p, x, e⟩
    · rw [e] at hl; cases hl
    · have e : o = p ++ [x] := by simpa using e
      subst e
      exact ⟨_, ⟨p, st.init.1, by simpa using hl, rfl⟩, p, x, st, rfl, rfl⟩
  · rintro ⟨g, ⟨o, st, hl, rfl⟩, q, x, sq, e, rfl⟩
    have := h.pcs st
    have := h.pcs sq.init.1
    rw [e] at this
    exact ⟨q ++ [x], sq, by simp; omega, rfl⟩
theorem bo_snoc {o : List Str} {x : Str} : bo ns o ||| bo ns [x] = bo ns (o ++ [x]) := by
  unfold bo
  rw [nbv_or]
  exact nbv_congr fun y _ => by simp
theorem bo_has {o : List Str} {x : Str} (hx : x ∈ ns) : (bo ns o &&& bo ns [x] = 0) ↔ x ∉ o := by
  unfold bo
  rw [nbv_and, nbv_zero]
  exact ⟨fun h c => by have := h x hx; simp [c] at this, fun h y _ => by
    by_cases e : y = x
    · subst e; simp [h]
    · simp [e]⟩
theorem bo_in {o ws : List Str} (hw : ∀ w ∈ ws, w ∈ ns) : (bo ns o &&& bo ns ws = bo ns ws) ↔ ∀ w ∈ ws, w ∈ o := by
  unfold bo
  rw [nbv_and, nbv_ext]
  exact ⟨fun h w hx => by have := h w (hw w hx); simpa [hx] using this, fun h y _ => by
    by_cases e : y ∈ ws
    · simp [e, h y e]
    · simp [e]⟩
/-- what a level may hold -/
theorem Few.level (h : Few os ns) {n : Nat} {lev : List Nat} (nd : lev.Nodup) (m : ∀ g ∈ lev, LotN os ns n g) : lev.length ≤ 35 := by
  by_cases hn : n < 20
  · refine Nat.le_trans ?_ (few_pc n hn)
    have sub : ∀ g ∈ lev, g ∈ (List.range 128).filter fun g => decide (pc g = n) := fun g hg => by
      obtain ⟨o, st, hl, rfl⟩ := m g hg
      have lt : bo ns o < 2 ^ 7 := Nat.lt_of_lt_of_le bo_lt (Nat.pow_le_pow_right (by decide) h.s)
      rw [List.mem_filter, List.mem_range]
      exact ⟨lt, by rw [h.pcs st]; simpa using hl⟩
    exact nd.length_le_of_subset sub
  · cases lev with
    | nil => simp
    | cons g _ =>
      obtain ⟨o, st, hl, _⟩ := m g (by simp)
      have := h.len st
      have := h.s
      omega
end
/-- the levels below n, one behind the other, each lot with those that are one more -/
structure Aft (os : List Rl) (ns : List Str) (n : Nat) (kvs : List (Nat × List Nat)) : Prop where
  key : ∀ g, g ∈ kvs.map (·.1) ↔ ∃ k < n, LotN os ns k g
  nd : (kvs.map (·.1)).Nodup
  val : ∀ g ls, (g, ls) ∈ kvs → ls.Pairwise (· < ·) ∧ ∀ l, l ∈ ls ↔ AftN os ns g l
  ord : kvs.Pairwise fun a b => pc a.1 ≤ pc b.1
theorem Aft.nil {os : List Rl} {ns : List Str} : Aft os ns 0 [] := ⟨fun g => by simp, by simp, by simp, .nil⟩
def F_Room_init : FB := fun y ds Φ => ∃ (rs : List (Str × List Str)), y = .ins 1 [] ∧ (ds = [.lst (rs.map ruleO)] ∨ ds = [.tup (rs.map ruleO)]) ∧ rs.length ≤ 200 ∧ (∀ r ∈ rs, r.2.length ≤ 14) ∧ ∀ ns, GS.IsLot ns (wantAll rs) → Φ (.d .non) (.ins 1 [("rules", .tup (rs.map ruleO)), ("names", .tup (ns.map .str))])
/-! ### rooms with their names as a bare tuple -/
def roomF (os : List Rl) (ns : List Str) : D := .obj 1 [.tup (os.map ruleO), .tupF (ns.map .str)]
theorem roomF_wk {Z : Wd} {M : Hp} {v : V} {os : List Rl} {ns : List Str} (h : At Z M v (roomF os ns)) : At Z M v (roomD os ns) := by
  unfold roomF at h
  cases h with
  | obj k l l2 al =>
    refine .obj k l l2 fun i u d hu hd => ?_
    rcases i with _ | _ | i
    · cases hd; exact al 0 u _ hu rfl
    · cases hd; exact At.wk (al 1 u (.tupF (ns.map .str)) hu rfl)
    · cases hd
theorem xe_wkR {Z : Wd} {δ : List S} {te : TE} {Φ : D → List S → Prop} (h : XE Z te δ fun d δ1 => ∃ os ns, d = roomF os ns ∧ Φ (roomD os ns) δ1) : XE Z te δ Φ := XE.mk fun B W M H σ Q I q =>
  h.run I fun M1 H1 δ1 x a h1 e1 I1 at1 => by
    obtain ⟨os, ns, rfl, f⟩ := h1
    exact q M1 H1 δ1 _ _ f e1 I1 (roomF_wk at1)
theorem sum_cast : ∀ (l : List Nat), (l.map fun n : Nat => (n : Int)).sum = ((l.sum : Nat) : Int)
  | [] => rfl
  | n :: l => by rw [List.map_cons, List.sum_cons, List.sum_cons, sum_cast l, Int.natCast_add]
/-! ### bits of lots -/
def F_bits_of : FR := fun ds Φ => ∃ (ns S : List Str) (d : D), ds = [.tupF (ns.map .str), d] ∧ (d = .lst (S.map .str) ∨ d = .tup (S.map .str)) ∧ ns.Nodup ∧ S.Nodup ∧ (∀ x ∈ S, x ∈ ns) ∧ ns.length ≤ 1000 ∧ S.length ≤ 1000 ∧ Φ (.d (.int (bo ns S)))
theorem ok_bits_of (T : Txt K mg a) : FnOk P w K mg base CX0 1 a.f_bits_of a.fd_bits_of ["names", "some"] (spR (ZZ K a) F_bits_of) := by
  refine T.F_bits_of.ok sc_bits_of (fun vs H Q E h => ?_) (fun cdv A outer s H vs Q E hr h => ?_)
  · obtain ⟨M, ds, Φ, _, al, ⟨ns, S, d, rfl, _⟩, _⟩ := h
    exact al.len
  · obtain ⟨M, ds, Φ, ex, al, ⟨ns, S, d, rfl, hd, nn, nS, sub, l1, l2, fin⟩, q⟩ := h
    refine ⟨_, (pss_one (ps_ret (pe_callB (cr_sum rfl) (by rfl) T.n_sum (by decide +kernel) (pa_cons (pe_lc (own := [("name", 2)]) (g := (gName 2)) (tt := tYes) rfl sc_bits_of.nd (G.pi_or (pi_list (pv 1)) (pi_tupK (K := K) rfl (pv 1))) (blkOk_by (N := N_bits_of) (sc := defScope s_bits_of) (by decide +kernel)) (fun _ _ _ _ _ => (pg_name (i := 2) sc_bits_of.nd rfl (Or.inl rfl))) (fun _ _ _ _ _ => pts_nil) (fun _ _ _ _ _ => (pe_op op_oneShl pe_int (GX.pe_tupIx (K := K) rfl (pv 0) (pa_cons (pv 2) pa_nil))))) pa_nil)))), entR (n := 1) ex al rfl q ?_⟩
    walk_at "ent"
    refine xs_ret <| xe_sum <| xe_ofO <| xo_fg (v := 2) (g := fun x : Str => .str x) (f := fun x : Str => .int (2 ^ ns.idxOf x)) (p := fun _ => true) <| xi_seqV rfl hd ⟨S, rfl, rfl, by omega, fun x hx => ?_, _, rfl, S.map fun x => 2 ^ ns.idxOf x, ?_, ?_⟩
    · try dsimp only [List.set]
      have lt := List.idxOf_lt_length_of_mem (sub x hx)
      refine xt_yes ⟨rfl, rfl, fun _ => xe_oneShl <| xe_int ⟨rfl, xe_tupIx <| xe_var rfl ⟨ns, rfl, xe_var rfl ⟨_, rfl, sub x hx, ns.idxOf x, rfl, by omega, rfl, rfl⟩⟩⟩⟩
    · rw [show S.filter (fun _ => true) = S from List.filter_eq_self.mpr fun _ _ => rfl]
      simp [Function.comp_def]
    · have e : (S.map fun x => (2 : Int) ^ ns.idxOf x).sum = ((bo ns S : Nat) : Int) := by
        rw [← bo_sum nn nS sub, ← sum_cast, List.map_map]
        exact congrArg List.sum (List.map_congr_left fun x _ => by simp)
      rw [e]
      exact fin
def F_Room_initF : FB := fun y ds Φ => ∃ (rs : List (Str × List Str)), y = .ins 1 [] ∧ (ds = [.lst (rs.map ruleO)] ∨ ds = [.tup (rs.map ruleO)]) ∧ rs.length ≤ 200 ∧ (∀ r ∈ rs, r.2.length ≤ 14) ∧ ∀ ns, GS.IsLot ns (wantAll rs) → Φ (.d .non) (.ins 1 [("rules", .tup (rs.map ruleO)), ("names", .tupF (ns.map .str))])
theorem ok_Room_initF (T : Txt K mg a) (G_is_sequence : FnOk P w K mg base CX0 1 a.f_is_sequence a.fd_is_sequence ["value"] (spR (ZZ K a) F_is_sequence)) (G_lot_of : FnOk P w K mg base CX0 1 a.f_lot_of a.fd_lot_of ["names"] (spR (ZZ K a) F_lot_ofF)) : FnOk P w K mg base CX0 2 a.f_Room_init a.fd_Room_init ["self", "rules"] (spB (ZZ K a) F_Room_initF) := by
  refine T.F_Room_init.ok sc_Room_init (fun vs H Q E h => ?_) (fun cdv A outer s H vs Q E hr h => ?_)
  · obtain ⟨M, p, ws', ho, y, ds, Φ, rfl, _, _, _, _, al, ⟨rs, rfl, hd, _⟩, _⟩ := h
    rcases hd with rfl | rfl <;> simp [al.len]
  · obtain ⟨M, p, ws', ho, y, ds, Φ, rfl, hp, hm, hy, ex, al, ⟨rs, rfl, hd, hl, hrs, fin⟩, q⟩ := h
    obtain ⟨d, rfl, hd2⟩ : ∃ d, ds = [d] ∧ (d = .lst (rs.map ruleO) ∨ d = .tup (rs.map ruleO)) := by
      rcases hd with rfl | rfl
      · exact ⟨_, rfl, .inl rfl⟩
      · exact ⟨_, rfl, .inr rfl⟩
    clear hd
    refine ⟨_, PSs.nox ((pss_cons (ps_if (pt_not (pt_val (pe_call G_is_sequence (hr.mono (by decide)) (by rfl) T.m_is_sequence T.F_is_sequence.kp T.b_is_sequence .nil pass0 (pa_cons (pv 1) pa_nil)))) (pss_one ps_never) pss_nil)
      (pss_cons (ps_for PassesOwn.never rfl (G.pi_or (pi_enum (by rfl) T.n_enumerate (pa_cons (pv 1) pa_nil)) (GE.pi_enumT (by rfl) T.n_enumerate (pa_cons (pv 1) pa_nil))) (pg_tup rfl (pgs_cons (pg_name (i := 2) sc_Room_init.nd rfl (Or.inl rfl)) (pgs_cons (pg_name (i := 3) sc_Room_init.nd rfl (Or.inl rfl)) pgs_nil)))
      (pss_one (ps_if (pt_not (pt_val (pe_callB (C8.call_isC T.isC_Rule) (by rfl) T.n_isinstance (by decide +kernel) (pa_cons (pv 3) (pa_cons (pe_glob (v := .ref a.C_Rule) rfl T.m_Rule rfl) pa_nil))))) (pss_one ps_never) pss_nil)))
      (pss_cons (ps_fld (pv 0) (pe_callTy call_tuple_of (by rfl) T.n_tuple (by decide +kernel) (pa_cons (pv 1) pa_nil)) rfl)
      (pss_one (ps_fld (pv 0) (pe_call G_lot_of (hr.mono (by decide)) (by rfl) T.m_lot_of T.F_lot_of.kp T.b_lot_of .nil pass0 (pa_cons (pe_lc2 (own := [("rule", 3), ("name", 4)]) (vs1 := [4]) (g := (gName 3)) (g1 := (gName 4)) (tt := tYes) (tt1 := tYes) rfl sc_Room_init.nd (G.pi_or (pi_list (pv 1)) (pi_tupK (K := K) rfl (pv 1))) (blkOk_by (N := N_Room_init) (sc := defScope s_Room_init) (by decide +kernel)) (by decide) (fun _ _ _ _ _ => (pg_name (i := 3) sc_Room_init.nd rfl (Or.inl rfl))) (fun _ _ _ _ _ => pts_nil) (fun _ _ _ _ _ => (pi_tupK (K := K) rfl (pe_tup (pa_cons (pe_fldK (K := K) rfl (pv 3) rfl) (pa_starK (K := K) rfl (pe_fldK (K := K) rfl (pv 3) rfl) pa_nil))))) (fun _ _ _ _ _ => (pg_name (i := 4) sc_Room_init.nd rfl (Or.inl rfl))) (fun _ _ _ _ _ => pts_nil) (fun _ _ _ _ _ => (pv 4))) pa_nil)) rfl)))))), entB (n := 3) hp hm hy ex al rfl q ?_⟩
    walk_at "ent"
    walk_at "xs"
    refine xr_call (fun _ => .nil) ?_
    walk_at "xs"
    refine ⟨(by rcases hd2 with rfl | rfl <;> exact ⟨_, rfl⟩), on_d ⟨_, rfl, ?_⟩⟩
    rw [show (seqOf d).isSome = true by rcases hd2 with rfl | rfl <;> rfl]
    walk_at "xs"
    refine xs_for (vs := [2, 3]) (xi_enumV rfl hd2 ?_)
    refine ⟨fun i δ => ∃ s2 s3 : S, δ = [.own (.ins 1 []), .d d, s2, s3, .no], ⟨_, _, rfl⟩, ?_, ?_⟩
    · rintro i x δ1 hi ⟨s2, s3, rfl⟩
      obtain ⟨x, hx, rfl⟩ := enumD_at hi
      obtain ⟨r, hr, rfl⟩ : ∃ r, rs[i]? = some r ∧ ruleO r = x := by simpa using hx
      refine xg_tup (by rfl) (xgs_cons (xg_name (by decide) (by decide) (xgs_cons (xg_name (by decide) (by decide) (xgs_nil ?_)))))
      walk_at "xs"
      exact ⟨_, _, rfl⟩
    · rintro δ1 ⟨s2, s3, rfl⟩
      walk_at "xs"
      refine xs_forget (i := 3) (by decide) ?_
      walk_at "xs"
      refine xs_fldO (c := 1) T.cl_Room T.no_Room_rules (xe_tuple (xe_var rfl ⟨_, hd2, [], rfl, by decide, ?_⟩))
      walk_at "xs"
      refine xs_fldO (c := 1) T.cl_Room T.no_Room_names ?_
      refine xr_call (fun _ => .nil) ?_
      walk_at "xs"
      refine xe_ofO (xo_lc2 (xi_seqV rfl hd2 ?_))
      refine ⟨fun v hv => by simp at hv; rcases hv with rfl | rfl <;> rfl, by simp, by simp; omega, fun i acc δ => δ = [.own (.ins 1 (putD "rules" (.tup (rs.map ruleO)) [])), .d d, s2, .no, .no] ∧ acc = (wantAll (rs.take i)).map .str, ⟨rfl, rfl⟩, ?_, ?_⟩
      · rintro i x acc δ1 bs hb hx ⟨rfl, rfl⟩
        obtain ⟨r, hr, rfl⟩ : ∃ r, rs[i]? = some r ∧ ruleO r = x := by simpa using hx
        have hrl := hrs r (List.mem_of_getElem? hr)
        refine xg_name (by decide) (hb 3 (by decide)) ?_
        refine xt_yes (if_tt (xi_tup (xe_tup (xa_cons (xe_rname T (xe_var rfl ⟨_, _, rfl, xa_star (xe_rgone T (xe_var rfl ⟨_, _, rfl, _, .inr rfl, xa_nil ?_⟩))⟩))))))
        refine ⟨by simp; omega, _, rfl, by simp; omega, fun v hv => by simp at hv; subst hv; rfl, fun j acc δ => δ = [.own (.ins 1 (putD "rules" (.tup (rs.map ruleO)) [])), .d d, s2, .d (ruleO r), .no] ∧ acc = (wantAll (rs.take i) ++ (r.1 :: r.2).take j).map .str, ⟨rfl, by simp⟩, ?_, ?_⟩
        · rintro j e acc δ5 bs hb he ⟨rfl, rfl⟩
          obtain ⟨w, hw, rfl⟩ : ∃ w, (r.1 :: r.2)[j]? = some w ∧ D.str w = e := by
            have : (D.str r.1 :: (r.2.map .str ++ [])) = (r.1 :: r.2).map .str := by simp
            rw [this, List.getElem?_map] at he
            exact Option.map_eq_some_iff.mp he
          refine xg_name (by decide) (hb 4 (by decide)) ?_
          refine xt_yes (if_tt (xe_var rfl ⟨rfl, ?_⟩))
          rw [GS.take_get hw]
          simp
        · rintro acc δ5 ⟨rfl, rfl⟩
          refine ⟨rfl, ?_⟩
          have e : ∀ n, n = r.2.length + 1 → (r.1 :: r.2).take n = r.1 :: r.2 := fun n h => List.take_of_length_le (by simp [h])
          rw [GS.take_get hr, wantAll, wantAll, List.flatMap_append, e _ (by simp)]
          simp
      · rintro acc δ1 ⟨rfl, rfl⟩
        rw [List.length_map, List.take_length]
        refine ⟨_, rfl, xa_nil ?_⟩
        have hz := wantAll_len hrs
        refine ⟨wantAll rs, .inr rfl, by omega, fun ys hy _ => ?_⟩
        exact ⟨_, rfl, (show (0 : Nat) + 1 < 1000 by decide), _, rfl, fin _ hy⟩
/-! ### who can be gone after whom -/
theorem band (a b : Nat) : PySem.Builtin.bitAnd (a : Int) (b : Int) = ((a &&& b : Nat) : Int) := PySem.W.os_band a b
theorem bor (a b : Nat) : PySem.Builtin.bitOr (a : Int) (b : Int) = ((a ||| b : Nat) : Int) := by
  rw [bitOr_nn (Int.natCast_nonneg a) (Int.natCast_nonneg b), Int.toNat_natCast, Int.toNat_natCast]
def intL (l : List Nat) : List D := l.map fun n : Nat => .int n
def dicE (kv : Nat × List Nat) : Key × D := (.inl kv.1, .lst (intL kv.2))
theorem dget_none {g : Nat} {kvs : List (Nat × List Nat)} (h : g ∉ kvs.map (·.1)) : dget (kvs.map dicE) (.inl g) = none := by
  unfold dget
  rw [List.find?_eq_none.mpr]
  · rfl
  · intro kv hkv
    obtain ⟨e, he, rfl⟩ := List.mem_map.mp hkv
    have : e.1 ≠ g := fun z => h (List.mem_map.mpr ⟨e, he, z⟩)
    simp [dicE]; omega
theorem dget_some {g : Nat} {ls : List Nat} : ∀ {kvs : List (Nat × List Nat)}, (kvs.map (·.1)).Nodup → (g, ls) ∈ kvs → dget (kvs.map dicE) (.inl g) = some (.lst (intL ls))
  | (h, ms) :: kvs, nd, hm => by
    obtain ⟨n1, n2⟩ := List.nodup_cons.mp nd
    rcases List.mem_cons.mp hm with e | hm
    · cases e; simp [dget, dicE]
    · have : h ≠ g := fun z => n1 (List.mem_map.mpr ⟨_, hm, z.symm⟩)
      have ih := dget_some n2 hm
      unfold dget at ih ⊢
      rw [List.map_cons, List.find?_cons_of_neg]
      · exact ih
      · simp [dicE]; omega
theorem nat_of_ints {ms : List Int} (h : ∀ k ∈ ms, ∃ n : Nat, (n : Int) = k) (asc : ms.Pairwise (· < ·)) : ∃ ls : List Nat, ms = ls.map (fun n : Nat => (n : Int)) ∧ ls.Pairwise (· < ·) := by
  have e : ms = (ms.map Int.toNat).map (fun n : Nat => (n : Int)) := by
    rw [List.map_map]
    refine (List.map_id ms).symm.trans (List.map_congr_left fun k hk => ?_)
    obtain ⟨n, rfl⟩ := h k hk
    simp
  refine ⟨ms.map Int.toNat, e, ?_⟩
  rw [e] at asc
  exact (List.pairwise_map.mp asc).imp fun h => by omega
theorem int_in {l : Nat} {ls : List Nat} : l ∈ ls ↔ (l : Int) ∈ ls.map fun n : Nat => (n : Int) := by
  rw [List.mem_map]
  exact ⟨fun h => ⟨l, h, rfl⟩, fun ⟨k, h, e⟩ => by rwa [show l = k by omega]⟩
theorem intL_of (ls : List Nat) : (ls.map (fun n : Nat => (n : Int))).map D.int = intL ls := by rw [List.map_map]; rfl
theorem Aft.top {os : List Rl} {ns : List Str} {n m : Nat} {kvs : List (Nat × List Nat)} (f : Few os ns) (h : Aft os ns n kvs) (no : ∀ g, ¬ LotN os ns n g) (l : n ≤ m) : Aft os ns m kvs := by
  have none' : ∀ k, n ≤ k → ∀ g, ¬ LotN os ns k g := fun k => by
    induction k with
    | zero => intro hk g; obtain rfl : n = 0 := by omega
              exact no g
    | succ k ih =>
      intro hk g c
      rcases Nat.eq_or_lt_of_le hk with e | e
      · rw [← e] at c; exact no g c
      · obtain ⟨g', c', _⟩ := f.next.mp c
        exact ih (by omega) g' c'
  exact ⟨fun g => (h.key g).trans ⟨fun ⟨k, hk, c⟩ => ⟨k, by omega, c⟩, fun ⟨k, hk, c⟩ => ⟨k, by
    rcases Nat.lt_or_ge k n with z | z
    · exact z
    · exact absurd c (none' k z g), c⟩⟩, h.nd, h.val, h.ord⟩
theorem Aft.more {os : List Rl} {ns : List Str} {n : Nat} {kvs kv2 : List (Nat × List Nat)} {lev : List Nat} (f : Few os ns) (h : Aft os ns n kvs) (nd : lev.Nodup) (mem : ∀ g, g ∈ lev ↔ LotN os ns n g) (k2 : kv2.map (·.1) = lev) (v2 : ∀ g ls, (g, ls) ∈ kv2 → ls.Pairwise (· < ·) ∧ ∀ l, l ∈ ls ↔ AftN os ns g l) : Aft os ns (n + 1) (kvs ++ kv2) := by
  have size : ∀ {k g}, LotN os ns k g → pc g = k := fun {k g} ⟨o, st, hl, e⟩ => by rw [← e, f.pcs st, hl]
  refine ⟨fun g => ?_, ?_, fun g ls hg => ?_, ?_⟩
  · rw [List.map_append, List.mem_append, h.key, k2, mem]
    constructor
    · rintro (⟨k, hk, c⟩ | c)
      · exact ⟨k, by omega, c⟩
      · exact ⟨n, by omega, c⟩
    · rintro ⟨k, hk, c⟩
      rcases Nat.lt_or_ge k n with z | z
      · exact .inl ⟨k, z, c⟩
      · obtain rfl : k = n := by omega
        exact .inr c
  · rw [List.map_append, List.nodup_append, k2]
    refine ⟨h.nd, nd, fun x hx y hy e => ?_⟩
    subst e
    obtain ⟨k, hk, c⟩ := (h.key x).mp hx
    have := size c
    have := size ((mem x).mp hy)
    omega
  · rcases List.mem_append.mp hg with z | z
    · exact h.val g ls z
    · exact v2 g ls z
  · have in2 : ∀ b ∈ kv2, pc b.1 = n := fun b hb => size ((mem _).mp (k2 ▸ List.mem_map_of_mem (f := (·.1)) hb))
    refine List.pairwise_append.mpr ⟨h.ord, List.pairwise_of_forall_mem_list fun a ha b hb => by rw [in2 a ha, in2 b hb]; exact Nat.le_refl _, fun a ha b hb => ?_⟩
    obtain ⟨k, hk, c⟩ := (h.key a.1).mp (List.mem_map_of_mem (f := (·.1)) ha)
    rw [size c, in2 b hb]; omega
def F_lots_after : FR := fun ds Φ => ∃ (os : List Rl) (ns : List Str), ds = [roomF os ns] ∧ Few os ns ∧ ∀ kvs, Aft os ns 20 kvs → Φ (.own (.dic (kvs.map dicE)))
theorem ok_lots_after (T : Txt K mg a) (G_bits_of : FnOk P w K mg base CX0 1 a.f_bits_of a.fd_bits_of ["names", "some"] (spR (ZZ K a) F_bits_of)) : FnOk P w K mg base CX0 2 a.f_lots_after a.fd_lots_after ["room"] (spR (ZZ K a) F_lots_after) := by
  refine T.F_lots_after.ok sc_lots_after (fun vs H Q E h => ?_) (fun cdv A outer s H vs Q E hr h => ?_)
  · obtain ⟨M, ds, Φ, _, al, ⟨os, ns, rfl, _⟩, _⟩ := h
    exact al.len
  · obtain ⟨M, ds, Φ, ex, al, ⟨os, ns, rfl, few, fin⟩, q⟩ := h
    refine ⟨_, (pss_cons (ps_setLc (own := [("rule", 5)]) (g := (gName 5)) (tt := tYes) (i := 1) rfl sc_lots_after.nd rfl rfl (sw_true rfl rfl rfl (by decide +kernel)) (pi_tupK (K := K) rfl (pe_fldK (K := K) rfl (pv 0) rfl)) (blkOk_by (N := N_lots_after) (sc := defScope s_lots_after) (by decide +kernel)) (fun _ _ _ _ _ => (pg_name (i := 5) sc_lots_after.nd rfl (Or.inl rfl))) (fun _ _ _ _ _ => pts_nil) (fun _ _ _ _ _ => (pe_tup (pa_cons (pe_call G_bits_of (hr.mono (by decide)) (by rfl) T.m_bits_of T.F_bits_of.kp T.b_bits_of .nil pass0 (pa_cons (pe_fldK (K := K) rfl (pv 0) rfl) (pa_cons (pe_lst (pa_cons (pe_fldK (K := K) rfl (pv 5) rfl) pa_nil)) pa_nil))) (pa_cons (pe_call G_bits_of (hr.mono (by decide)) (by rfl) T.m_bits_of T.F_bits_of.kp T.b_bits_of .nil pass0 (pa_cons (pe_fldK (K := K) rfl (pv 0) rfl) (pa_cons (pe_fldK (K := K) rfl (pv 5) rfl) pa_nil))) pa_nil)))))
      (pss_cons (ps_set (i := 2) sc_lots_after.nd rfl (Or.inr rfl) pe_dnewK)
      (pss_cons (ps_set (i := 3) sc_lots_after.nd rfl (Or.inl rfl) (pe_lst (pa_cons pe_int pa_nil)))
      (pss_cons (ps_while PassesOwn.never (pt_truth (pv 3) (by intro _; rfl)) (pss_cons (ps_for PassesOwn.never rfl (pi_list (pv 3)) (pg_name (i := 4) sc_lots_after.nd rfl (Or.inr rfl))
      (pss_one (ps_dput (units1 hr) (pv 2) (pv 4) (pe_callB (cr_sortedSet rfl) (by rfl) T.n_sorted (by decide +kernel) (pa_cons (GX.pe_set1 (own := [("one", 6), ("wanted", 7)]) (g := (gTup K 2 (gCons (gName 6) (gCons (gName 7) gNil)))) rfl sc_lots_after.nd (pi_list (pv 1)) (blkOk_by (N := N_lots_after) (sc := defScope s_lots_after) (by decide +kernel)) (fun _ _ _ _ _ => (pg_tup rfl (pgs_cons (pg_name (i := 6) sc_lots_after.nd rfl (Or.inl rfl)) (pgs_cons (pg_name (i := 7) sc_lots_after.nd rfl (Or.inl rfl)) pgs_nil)))) (fun _ _ _ _ _ => pts_one (PW.pt (pw_and (pt_not (pt_truthK (K := K) rfl (pe_op op_and (pv 4) (pv 6)) (by intro _; rfl))) (pw_and1 (pt_cmpR op_eq (pe_op op_and (pv 4) (pv 7)) (pv 7) (nomark _)))))) (fun _ _ _ _ _ => (pe_op op_or (pv 4) (pv 6)))) pa_nil)) (by rfl))))
      (pss_one (ps_set (i := 3) sc_lots_after.nd rfl (Or.inl rfl) (pe_callB (cr_sortedSet rfl) (by rfl) T.n_sorted (by decide +kernel) (pa_cons (GX.pe_set2 (own := [("lot", 8), ("bits", 9)]) (vs1 := [9]) (g := (gName 8)) (g1 := (gName 9))  rfl sc_lots_after.nd (pi_list (pv 3)) (blkOk_by (N := N_lots_after) (sc := defScope s_lots_after) (by decide +kernel)) (by decide) (fun _ _ _ _ _ => (pg_name (i := 8) sc_lots_after.nd rfl (Or.inl rfl))) (fun _ _ _ _ _ => (pi_listK (K := K) rfl (pe_dget (units1 hr) (pv 2) (pv 8) (fun _ _ => rfl)))) (fun _ _ _ _ _ => (pg_name (i := 9) sc_lots_after.nd rfl (Or.inl rfl))) (fun _ _ _ _ _ => (pv 9))) pa_nil))))))
      (pss_one (ps_ret (pv 2))))))), entR (n := 9) ex al rfl q ?_⟩
    walk_at "ent"
    have l7 := few.s
    have l42 := few.l
    refine xs_seq <| xs_set (by decide) <| xe_ofO <| xo_fg (v := 5) (g := ruleO) (f := fun r => .tup [.int (bo ns [r.1]), .int (bo ns r.2)]) (p := fun _ => true) <| xi_tup <| xe_mrules T <| xe_var rfl ⟨_, _, rfl, _, rfl, os, rfl, rfl, by omega, fun r hr => ?_, _, rfl, ?_⟩
    · have f := few.f r hr
      have m := few.m r hr
      try dsimp only [List.set]
      refine xt_yes ⟨rfl, rfl, fun _ => xe_tup <| xa_cons <| xr_call (fun _ => .nil) <| xa_cons <| xe_mnames T <| xe_var rfl ⟨_, _, rfl, xa_cons <| xe_ofO <| xo_lst <| xa_cons <| xe_rname T <| xe_var rfl ⟨_, _, rfl, xa_nil ⟨by simp, _, rfl, xa_nil ⟨ns, [r.1], _, rfl, .inl rfl, few.nd, by simp, fun x hx => m x (by rw [List.mem_singleton.mp hx]; simp), by omega, by simp, on_d ?_⟩⟩⟩⟩⟩
      exact xa_cons <| xr_call (fun _ => .nil) <| xa_cons <| xe_mnames T <| xe_var rfl ⟨_, _, rfl, xa_cons <| xe_rgone T <| xe_var rfl ⟨_, _, rfl, xa_nil ⟨ns, r.2, _, rfl, .inr rfl, few.nd, f.2, fun x hx => m x (by simp [hx]), by omega, by omega, on_d <| xa_nil ⟨by simp, rfl, rfl⟩⟩⟩⟩
    rw [show os.filter (fun _ => true) = os from List.filter_eq_self.mpr fun _ _ => rfl]
    try dsimp only [List.set]
    refine xs_seq <| xs_setO (by decide) <| xo_dnew ⟨by simp, ?_⟩
    try dsimp only [List.set]
    refine xs_seq <| xs_set (by decide) <| xe_ofO <| xo_lst <| xa_cons <| xe_int <| xa_nil ⟨by simp, _, rfl, ?_⟩
    try dsimp only [List.set]
    refine xs_seq <| xs_while (fun m δ => ∃ (n : Nat) (lev : List Nat) (kvs : List (Nat × List Nat)) (s4 : S), δ = [.d (roomF os ns), .d (.lst (os.map fun r => .tup [.int (bo ns [r.1]), .int (bo ns r.2)])), .own (.dic (kvs.map dicE)), .d (.lst (intL lev)), s4, .no, .no, .no, .no, .no] ∧ Aft os ns n kvs ∧ lev.Pairwise (· < ·) ∧ (∀ g, g ∈ lev ↔ LotN os ns n g) ∧ m = ns.length + 1 - n ∧ n ≤ 8) ⟨_, 0, [0], [], _, rfl, .nil, by simp, fun g => ?_, rfl, by omega⟩ ?_
    · rw [List.mem_singleton]
      exact ⟨fun e => ⟨[], Steps.nil, rfl, by rw [e]; exact bo_nil⟩, fun ⟨o, _, hl, e⟩ => by rw [List.length_eq_zero_iff.mp hl] at e; rw [← e]; exact bo_nil⟩
    rintro m δ ⟨n, lev, kvs, s4, rfl, ha, asc, mem, rfl, n8⟩
    have nd : lev.Nodup := asc.imp fun h => by omega
    have l35 := few.level nd fun g hg => (mem g).mp hg
    refine xt_truth <| xe_var rfl ⟨nofun, _, rfl, ?_⟩
    by_cases ne : lev = []
    · subst ne
      refine if_ff <| xs_retV (by decide) rfl <| fin kvs (ha.top few (fun g c => by simpa using (mem g).mpr c) (by omega))
    have nlen : n ≤ ns.length := by
      obtain ⟨g, hg⟩ := List.exists_mem_of_ne_nil _ ne
      obtain ⟨o, st, hl, _⟩ := (mem g).mp hg
      have := few.len st
      omega
    rw [show (!(intL lev).isEmpty) = true from by cases lev with | nil => exact absurd rfl ne | cons _ _ => rfl]
    refine if_tt ?_
    refine xs_seq <| xs_for (vs := [4]) <| xi_list <| xe_var rfl ⟨_, .inl rfl, ?_⟩
    refine ⟨fun i δ => ∃ (kv2 : List (Nat × List Nat)) (s4 : S), δ = [.d (roomF os ns), .d (.lst (os.map fun r => .tup [.int (bo ns [r.1]), .int (bo ns r.2)])), .own (.dic ((kvs ++ kv2).map dicE)), .d (.lst (intL lev)), s4, .no, .no, .no, .no, .no] ∧ kv2.map (·.1) = lev.take i ∧ ∀ g ls, (g, ls) ∈ kv2 → ls.Pairwise (· < ·) ∧ ∀ l, l ∈ ls ↔ AftN os ns g l, ⟨[], s4, by simp, by simp, by simp⟩, ?_, ?_⟩
    · rintro i d δ1 hi ⟨kv2, s4, rfl, k2, v2⟩
      obtain ⟨g, hg, rfl⟩ : ∃ g : Nat, lev[i]? = some g ∧ D.int g = d := by simpa [intL] using hi
      have gl := List.mem_of_getElem? hg
      have il := (List.getElem?_eq_some_iff.mp hg).1
      obtain ⟨o, st, hl, eo⟩ := (mem g).mp gl
      refine xg_name (by decide) (by decide) ?_
      try dsimp only [List.set]
      have hit : ∀ r ∈ os, (g &&& bo ns [r.1] = 0 ∧ g &&& bo ns r.2 = bo ns r.2) ↔ r.1 ∉ o ∧ ∀ w ∈ r.2, w ∈ o := fun r hr => by
        rw [← eo, bo_has (few.m r hr r.1 (by simp)), bo_in fun w hw => few.m r hr w (by simp [hw])]
      refine xs_dput <| xe_ofO <| xo_sort1 <| xi_list <| xe_var rfl ⟨_, .inl rfl, fun v hv => by simp at hv; rcases hv with rfl | rfl <;> rfl, by simp; omega, fun t acc δ => δ = [.d (roomF os ns), .d (.lst (os.map fun r => .tup [.int (bo ns [r.1]), .int (bo ns r.2)])), .own (.dic ((kvs ++ kv2).map dicE)), .d (.lst (intL lev)), .d (.int g), .no, .no, .no, .no, .no] ∧ acc.length ≤ t ∧ ∀ k, k ∈ acc ↔ ∃ r ∈ os.take t, (r.1 ∉ o ∧ ∀ w ∈ r.2, w ∈ o) ∧ (((g ||| bo ns [r.1] : Nat) : Int) = k), ⟨rfl, by simp, by simp⟩, ?_, ?_⟩
      · rintro t d acc δ1 bs hb ht ⟨rfl, la, ma⟩
        obtain ⟨r, hr, rfl⟩ : ∃ r, os[t]? = some r ∧ D.tup [.int (bo ns [r.1]), .int (bo ns r.2)] = d := by simpa using ht
        have rm := List.mem_of_getElem? hr
        have tk : os.take (t + 1) = os.take t ++ [r] := GS.take_get hr
        have go : ∀ (b : Bool), (b = true ↔ r.1 ∉ o ∧ ∀ w ∈ r.2, w ∈ o) → ∀ k, k ∈ (if b then acc ++ [((g ||| bo ns [r.1] : Nat) : Int)] else acc) ↔ ∃ r ∈ os.take (t + 1), (r.1 ∉ o ∧ ∀ w ∈ r.2, w ∈ o) ∧ (((g ||| bo ns [r.1] : Nat) : Int) = k) := fun b hb k => by
          rw [tk]
          constructor
          · intro hk
            cases b with
            | true =>
              rcases List.mem_append.mp hk with z | z
              · obtain ⟨r', h1, h2⟩ := (ma k).mp z
                exact ⟨r', by simp [h1], h2⟩
              · exact ⟨r, by simp, hb.mp rfl, (List.mem_singleton.mp z).symm⟩
            | false =>
              obtain ⟨r', h1, h2⟩ := (ma k).mp hk
              exact ⟨r', by simp [h1], h2⟩
          · rintro ⟨r', h1, h2, h3⟩
            rcases List.mem_append.mp h1 with z | z
            · have := (ma k).mpr ⟨r', z, h2, h3⟩
              cases b <;> simp [this]
            · rw [List.mem_singleton.mp z] at h2 h3
              rw [hb.mpr h2]
              simp [h3]
        refine xg_tup (by rfl) (xgs_cons (xg_name (by decide) (hb _ (by decide)) (xgs_cons (xg_name (by decide) (hb _ (by decide)) (xgs_nil ?_)))))
        try dsimp only [List.set]
        refine xt_and <| xt_not <| xt_truth <| xe_I0 <| xe_var rfl <| xe_var rfl ⟨_, _, rfl, rfl, nofun, _, rfl, ?_⟩
        rw [band]
        by_cases c1 : g &&& bo ns [r.1] = 0
        · rw [c1]
          refine if_nf <| xt_test <| xe_eq <| xe_I0 <| xe_var rfl <| xe_var rfl ⟨_, _, rfl, rfl, xe_var rfl ⟨_, _, rfl, rfl, rfl, _, rfl, ?_⟩⟩
          rw [band]
          by_cases c2 : g &&& bo ns r.2 = bo ns r.2
          · rw [c2, decide_eq_true rfl]
            refine if_tt <| xe_I0 <| xe_var rfl <| xe_var rfl ⟨_, _, rfl, rfl, _, rfl, ?_⟩
            rw [bor]
            exact ⟨rfl, by rw [List.length_append, List.length_singleton]; omega, go true ⟨fun _ => (hit r rm).mp ⟨c1, c2⟩, fun _ => rfl⟩⟩
          · rw [decide_eq_false fun e => c2 (by have := V.int.inj e; omega)]
            exact if_ff ⟨rfl, by omega, go false ⟨nofun, fun z => absurd ((hit r rm).mpr z).2 c2⟩⟩
        · rw [show (((g &&& bo ns [r.1] : Nat) : Int) != 0) = true from by simpa using c1]
          exact if_nt <| if_ff ⟨rfl, by omega, go false ⟨nofun, fun z => absurd ((hit r rm).mpr z).1 c1⟩⟩
      · rintro acc δ1 ⟨rfl, la, ma⟩
        rw [List.length_map] at la ma
        rw [List.take_length] at ma
        refine ⟨ns.map fun x => ((bo ns (o ++ [x]) : Nat) : Int), by rw [List.length_map]; omega, fun k hk => (by
          obtain ⟨r, hr, _, e⟩ := (ma k).mp hk
          exact List.mem_map.mpr ⟨r.1, few.m r hr r.1 (by simp), by rw [← bo_snoc, eo]; exact e⟩), fun ms msa msm => ?_⟩
        obtain ⟨ls, rfl, lsa⟩ := nat_of_ints (ms := ms) (fun k hk => by
          obtain ⟨r, _, _, e⟩ := (ma k).mp ((msm k).mp hk)
          exact ⟨_, e⟩) msa
        rw [intL_of]
        have lsm : ∀ l, l ∈ ls ↔ AftN os ns g l := fun l => by
          rw [← eo, few.aft st]
          have e1 : l ∈ ls ↔ (l : Int) ∈ ls.map fun n : Nat => (n : Int) := int_in
          rw [e1, msm, ma]
          constructor
          · rintro ⟨r, hr, hc, e⟩
            refine ⟨r.1, mem_may.mpr ⟨hc.1, r.2, hr, hc.2⟩, ?_⟩
            rw [← bo_snoc, eo]; omega
          · rintro ⟨x, hx, e⟩
            obtain ⟨h1, ws, h2, h3⟩ := mem_may.mp hx
            exact ⟨(x, ws), h2, ⟨h1, h3⟩, by rw [← e, ← bo_snoc, eo]⟩
        have gnew : g ∉ (kvs ++ kv2).map (·.1) := fun c => by
          rw [List.map_append, List.mem_append, k2, ha.key] at c
          rcases c with ⟨k, hk, o', st', hl', e'⟩ | c
          · have h1 := few.pcs st
            have h2 := few.pcs st'
            rw [eo] at h1; rw [e'] at h2
            omega
          · obtain ⟨j, hj⟩ := List.mem_iff_getElem?.mp c
            rw [List.getElem?_take] at hj
            split at hj
            · rename_i ji
              have jl := (List.getElem?_eq_some_iff.mp hj).1
              have := (List.pairwise_iff_getElem.mp asc) j i jl il ji
              have e1 := (List.getElem?_eq_some_iff.mp hj).2
              have e2 := (List.getElem?_eq_some_iff.mp hg).2
              omega
            · cases hj
        have small : (kvs ++ kv2).length ≤ 1000 := by
          have kl : (kvs.map (·.1)).length ≤ (List.range 128).length := ha.nd.length_le_of_subset fun g hg => by
            obtain ⟨k, hk, o, st, hl, rfl⟩ := (ha.key g).mp hg
            exact List.mem_range.mpr (Nat.lt_of_lt_of_le bo_lt (Nat.pow_le_pow_right (by decide) few.s))
          have kl2 := congrArg List.length k2
          rw [List.length_map, List.length_take] at kl2
          rw [List.length_map, List.length_range] at kl
          rw [List.length_append]; omega
        refine ⟨_, rfl, ⟨_, rfl⟩, xe_var rfl ⟨(kvs ++ kv2).map dicE, .inl g, rfl, rfl, dget_none gnew, by simp at small ⊢; omega, ?_⟩⟩
        refine ⟨kv2 ++ [(g, ls)], .d (.int g), ?_, ?_, fun g' ls' h' => ?_⟩
        · rw [← List.append_assoc, List.map_append (l₁ := kvs ++ kv2)]; rfl
        · rw [List.map_append, k2]
          rw [show lev.take (i + 1) = lev.take i ++ [g] from GS.take_get hg]
          rfl
        · rcases List.mem_append.mp h' with z | z
          · exact v2 g' ls' z
          · cases List.mem_singleton.mp z
            exact ⟨lsa, lsm⟩
    rintro δ1 ⟨kv2, s4, rfl, k2, v2⟩
    rw [show (intL lev).length = lev.length by simp [intL], List.take_length] at k2
    have ha' := ha.more few nd mem k2 v2
    refine xs_forget (i := 4) (by decide) ?_
    try dsimp only [List.set]
    refine xs_set (by decide) <| xe_ofO <| xo_sort2 <| xi_list <| xe_var rfl ⟨_, .inl rfl, fun v hv => by simp at hv; rcases hv with rfl | rfl <;> rfl, by simp [intL]; omega, fun t acc δ => δ = [.d (roomF os ns), .d (.lst (os.map fun r => .tup [.int (bo ns [r.1]), .int (bo ns r.2)])), .own (.dic ((kvs ++ kv2).map dicE)), .d (.lst (intL lev)), .no, .no, .no, .no, .no, .no] ∧ ∀ k, k ∈ acc ↔ ∃ g ∈ lev.take t, ∃ l, AftN os ns g l ∧ (l : Int) = k, ⟨rfl, by simp⟩, ?_, ?_⟩
    · rintro t d acc δ1 bs hb ht ⟨rfl, ma⟩
      obtain ⟨g, hg, rfl⟩ : ∃ g : Nat, lev[t]? = some g ∧ D.int g = d := by simpa [intL] using ht
      obtain ⟨ls, hls⟩ : ∃ ls, (g, ls) ∈ kv2 := by
        have : g ∈ kv2.map (·.1) := by rw [k2]; exact List.mem_of_getElem? hg
        obtain ⟨⟨g', ls⟩, h1, rfl⟩ := List.mem_map.mp this
        exact ⟨ls, h1⟩
      obtain ⟨la, lm⟩ := v2 g ls hls
      have l35b := few.level (n := n + 1) (la.imp fun h => by omega) fun l hl => few.next.mpr ⟨g, (mem g).mp (List.mem_of_getElem? hg), (lm l).mp hl⟩
      refine xg_name (by decide) (hb _ (by decide)) ?_
      try dsimp only [List.set]
      refine xi_list <| xe_dgetO ⟨_, rfl⟩ <| xe_var rfl ⟨_, .inl g, _, rfl, rfl, dget_some ha'.nd (List.mem_append_right _ hls), _, .inl rfl, by simp [intL]; omega, fun v hv => by simp at hv; subst hv; rfl, fun j acc' δ => δ = [.d (roomF os ns), .d (.lst (os.map fun r => .tup [.int (bo ns [r.1]), .int (bo ns r.2)])), .own (.dic ((kvs ++ kv2).map dicE)), .d (.lst (intL lev)), .no, .no, .no, .no, .d (.int g), .no] ∧ ∀ k, k ∈ acc' ↔ k ∈ acc ∨ ∃ l ∈ ls.take j, (l : Int) = k, ⟨rfl, by simp⟩, ?_, ?_⟩
      · rintro j e acc' δ5 bs5 hb5 he ⟨rfl, mb⟩
        obtain ⟨l, hl, rfl⟩ : ∃ l : Nat, ls[j]? = some l ∧ D.int l = e := by simpa [intL] using he
        refine xg_name (by decide) (hb5 _ (by decide)) ?_
        try dsimp only [List.set]
        refine xe_var rfl ⟨l, rfl, rfl, fun k => ?_⟩
        rw [show ls.take (j + 1) = ls.take j ++ [l] from GS.take_get hl, List.mem_append, mb, List.mem_singleton]
        constructor
        · rintro ((z | ⟨l', h1, h2⟩) | z)
          · exact .inl z
          · exact .inr ⟨l', by simp [h1], h2⟩
          · exact .inr ⟨l, by simp, z.symm⟩
        · rintro (z | ⟨l', h1, h2⟩)
          · exact .inl (.inl z)
          · rcases List.mem_append.mp h1 with z | z
            · exact .inl (.inr ⟨l', z, h2⟩)
            · rw [List.mem_singleton.mp z] at h2; exact .inr h2.symm
      · rintro acc' δ5 ⟨rfl, mb⟩
        refine ⟨rfl, fun k => ?_⟩
        rw [show (intL ls).length = ls.length by simp [intL], List.take_length] at mb
        rw [mb, ma, show lev.take (t + 1) = lev.take t ++ [g] from GS.take_get hg]
        constructor
        · rintro (⟨g', h1, h2⟩ | ⟨l, h1, h2⟩)
          · exact ⟨g', by simp [h1], h2⟩
          · exact ⟨g, by simp, l, (lm l).mp h1, h2⟩
        · rintro ⟨g', h1, l, h2, h3⟩
          rcases List.mem_append.mp h1 with z | z
          · exact .inl ⟨g', z, l, h2, h3⟩
          · rw [List.mem_singleton.mp z] at h2
            exact .inr ⟨l, (lm l).mpr h2, h3⟩
    · rintro acc δ1 ⟨rfl, ma⟩
      rw [show (intL lev).length = lev.length by simp [intL], List.take_length] at ma
      have nx : ∀ k, k ∈ acc ↔ ∃ l : Nat, LotN os ns (n + 1) l ∧ (l : Int) = k := fun k => by
        rw [ma]
        constructor
        · rintro ⟨g, hg, l, h1, h2⟩
          exact ⟨l, few.next.mpr ⟨g, (mem g).mp hg, h1⟩, h2⟩
        · rintro ⟨l, h1, h2⟩
          obtain ⟨g, h3, h4⟩ := few.next.mp h1
          exact ⟨g, (mem g).mpr h3, l, h4, h2⟩
      refine ⟨((List.range 128).filter fun g => decide (pc g = n + 1)).map fun n : Nat => (n : Int), by rw [List.length_map]; have := few_pc (n + 1) (by omega); omega, fun k hk => ?_, fun ms msa msm => ?_⟩
      · obtain ⟨l, ⟨o, st, hl, rfl⟩, rfl⟩ := (nx k).mp hk
        have lt : bo ns o < 2 ^ 7 := Nat.lt_of_lt_of_le bo_lt (Nat.pow_le_pow_right (by decide) few.s)
        exact List.mem_map.mpr ⟨_, by rw [List.mem_filter, List.mem_range]; exact ⟨lt, by rw [few.pcs st]; simpa using hl⟩, rfl⟩
      · obtain ⟨ls, rfl, lsa⟩ := nat_of_ints (ms := ms) (fun k hk => by
          obtain ⟨l, _, e⟩ := (nx k).mp ((msm k).mp hk)
          exact ⟨_, e⟩) msa
        rw [intL_of]
        refine ⟨_, rfl, ns.length + 1 - (n + 1), by omega, n + 1, ls, kvs ++ kv2, _, rfl, ha', lsa, fun g => ?_, rfl, by omega⟩
        have e1 : g ∈ ls ↔ (g : Int) ∈ ls.map fun n : Nat => (n : Int) := int_in
        rw [e1, msm, nx]
        exact ⟨fun ⟨l, h1, h2⟩ => by rwa [show l = g by omega] at h1, fun h => ⟨g, h, rfl⟩⟩
/-! ### the names of an integer -/
def F_names_of : FR := fun ds Φ => ∃ (ns S : List Str), ds = [.tupF (ns.map .str), .int (bo ns S)] ∧ ns.length ≤ 1000 ∧ Φ (.d (.tupT ((ns.filter fun n => decide (n ∈ S)).map .str)))
theorem ok_names_of (T : Txt K mg a) : FnOk P w K mg base CX0 1 a.f_names_of a.fd_names_of ["names", "bits"] (spR (ZZ K a) F_names_of) := by
  refine T.F_names_of.ok sc_names_of (fun vs H Q E h => ?_) (fun cdv A outer s H vs Q E hr h => ?_)
  · obtain ⟨M, ds, Φ, _, al, ⟨ns, S, rfl, _⟩, _⟩ := h
    exact al.len
  · obtain ⟨M, ds, Φ, ex, al, ⟨ns, S, rfl, l1, fin⟩, q⟩ := h
    refine ⟨_, (pss_one (ps_ret (pe_callTy call_tuple_of (by rfl) T.n_tuple (by decide +kernel) (pa_cons (pe_lc (own := [("at", 2), ("name", 3)]) (g := (gTup K 2 (gCons (gName 2) (gCons (gName 3) gNil))))  rfl sc_names_of.nd (GE.pi_enumT (by rfl) T.n_enumerate (pa_cons (pv 0) pa_nil)) (blkOk_by (N := N_names_of) (sc := defScope s_names_of) (by decide +kernel)) (fun _ _ _ _ _ => (pg_tup rfl (pgs_cons (pg_name (i := 2) sc_names_of.nd rfl (Or.inl rfl)) (pgs_cons (pg_name (i := 3) sc_names_of.nd rfl (Or.inl rfl)) pgs_nil)))) (fun _ _ _ _ _ => pts_one (pt_truthK (K := K) rfl (pe_op op_and (pe_op op_shr (pv 1) (pv 2)) pe_int) (by intro _; rfl))) (fun _ _ _ _ _ => (pv 3))) pa_nil)))), entR (n := 2) ex al rfl q ?_⟩
    walk_at "ent"
    refine xs_ret <| xe_tupleT <| xe_ofO <| xo_lc <| xi_enumT <| xe_wk <| xe_var rfl ⟨ns.map .str, rfl, ns.map .str, rfl, fun v hv => by simp at hv; rcases hv with rfl | rfl <;> rfl, by simp [enumD]; omega, fun i acc δ => δ = [.d (.tupF (ns.map .str)), .d (.int (bo ns S)), .no, .no] ∧ acc = ((ns.take i).filter fun n => decide (n ∈ S)).map .str, ⟨rfl, rfl⟩, ?_, ?_⟩
    · rintro i d acc δ1 bs hb hi ⟨rfl, rfl⟩
      obtain ⟨x, hx, rfl⟩ := enumD_at hi
      obtain ⟨n, hn, rfl⟩ : ∃ n, ns[i]? = some n ∧ D.str n = x := by simpa using hx
      have tk : ns.take (i + 1) = ns.take i ++ [n] := GS.take_get hn
      refine xg_tup (by rfl) (xgs_cons (xg_name (by decide) (hb _ (by decide)) (xgs_cons (xg_name (by decide) (hb _ (by decide)) (xgs_nil ?_)))))
      try dsimp only [List.set]
      refine xt_truth <| xe_I0 <| xe_I <| xe_var rfl <| xe_var rfl ⟨_, _, rfl, rfl, Int.natCast_nonneg _, xe_int ⟨_, _, rfl, rfl, nofun, _, rfl, ?_⟩⟩
      have e : (PySem.Builtin.bitAnd (((bo ns S : Nat) : Int) / 2 ^ ((i : Nat) : Int).toNat) 1 != 0) = decide (n ∈ S) := by
        rw [Int.toNat_natCast, show ((bo ns S : Nat) : Int) / 2 ^ i = ((bo ns S / 2 ^ i : Nat) : Int) from by simp, show (1 : Int) = ((1 : Nat) : Int) from rfl, band]
        have h1 := nbv_bit (ns := ns) (p := fun x => decide (x ∈ S)) (i := i)
        rw [show bitAt ns (fun x => decide (x ∈ S)) i = decide (n ∈ S) from by unfold bitAt; rw [hn]] at h1
        rw [← h1, Nat.testBit, Nat.shiftRight_eq_div_pow, Nat.and_comm]
        unfold bo
        generalize nbv ns (fun x => decide (x ∈ S)) / 2 ^ i &&& 1 = q
        rw [Bool.eq_iff_iff]
        simp only [bne_iff_ne, ne_eq]
        exact not_congr (by omega)
      rw [e]
      by_cases c : n ∈ S
      · rw [decide_eq_true c, if_pos rfl]
        exact xe_var rfl ⟨rfl, by rw [tk, List.filter_append]; simp [c]⟩
      · rw [decide_eq_false c, if_neg (by simp)]
        exact ⟨rfl, by rw [tk, List.filter_append]; simp [c]⟩
    · rintro acc δ1 ⟨rfl, rfl⟩
      rw [enumD_len, List.length_map, List.take_length]
      exact ⟨_, rfl, _, rfl, fin⟩
/-! ### all lots that can be gone -/
def LotM (os : List Rl) (l : List Str) : Prop := GS.Asc l ∧ ∃ m, Steps os m ∧ ∀ x, x ∈ l ↔ x ∈ m
open Classical in
noncomputable def nmOf (os : List Rl) (ns : List Str) (g : Nat) : List Str := if h : ∃ o, Steps os o ∧ bo ns o = g then ns.filter fun n => decide (n ∈ choose h) else []
theorem nmOf_is {os : List Rl} {ns o : List Str} (f : Few os ns) (so : Steps os o) : nmOf os ns (bo ns o) = ns.filter fun n => decide (n ∈ o) := by
  have h : ∃ q, Steps os q ∧ bo ns q = bo ns o := ⟨o, so, rfl⟩
  unfold nmOf
  rw [dif_pos h]
  have c := Classical.choose_spec h
  refine List.filter_congr fun n _ => ?_
  rw [decide_eq_decide]
  exact f.same c.1 so c.2 n
theorem nm_mem {os : List Rl} {ns o : List Str} (f : Few os ns) (so : Steps os o) (x : Str) : x ∈ ns.filter (fun n => decide (n ∈ o)) ↔ x ∈ o := by
  rw [List.mem_filter, decide_eq_true_eq]
  exact ⟨fun h => h.2, fun h => ⟨f.sub so x h, h⟩⟩
theorem lots_told {os : List Rl} {ns : List Str} {kvs : List (Nat × List Nat)} (f : Few os ns) (h : Aft os ns 20 kvs) : ∃ ls, kvs.map (fun kv => nmOf os ns kv.1) = [] :: ls ∧ (([] :: ls) : List (List Str)).Nodup ∧ ∀ l, l ∈ ([] :: ls) ↔ LotM os l := by
  have key : ∀ g, g ∈ kvs.map (·.1) ↔ ∃ o, Steps os o ∧ bo ns o = g := fun g => (h.key g).trans ⟨fun ⟨k, _, o, so, _, e⟩ => ⟨o, so, e⟩, fun ⟨o, so, e⟩ => by
    have := f.len so
    have := f.s
    exact ⟨o.length, by omega, o, so, rfl, e⟩⟩
  have mem : ∀ l, l ∈ kvs.map (fun kv => nmOf os ns kv.1) ↔ LotM os l := fun l => by
    constructor
    · intro hl
      obtain ⟨kv, hk, rfl⟩ := List.mem_map.mp hl
      obtain ⟨o, so, e⟩ := (key kv.1).mp (List.mem_map_of_mem (f := (·.1)) hk)
      rw [← e, nmOf_is f so]
      exact ⟨f.a.sublist List.filter_sublist, o, so, nm_mem f so⟩
    · rintro ⟨asc, o, so, sm⟩
      obtain ⟨kv, hk, e⟩ := List.mem_map.mp ((key (bo ns o)).mpr ⟨o, so, rfl⟩)
      refine List.mem_map.mpr ⟨kv, hk, ?_⟩
      rw [show kv.1 = bo ns o from e, nmOf_is f so]
      exact GS.Asc.uniq (f.a.sublist List.filter_sublist) asc fun x => (nm_mem f so x).trans (sm x).symm
  have nd : (kvs.map fun kv => nmOf os ns kv.1).Nodup := by
    rw [List.nodup_iff_pairwise_ne, List.pairwise_map]
    have nk := List.pairwise_map.mp (List.nodup_iff_pairwise_ne.mp h.nd)
    refine nk.imp_of_mem fun {p q} hp hq ne e => ne ?_
    obtain ⟨o, so, e1⟩ := (key p.1).mp (List.mem_map_of_mem (f := (·.1)) hp)
    obtain ⟨r, sr, e2⟩ := (key q.1).mp (List.mem_map_of_mem (f := (·.1)) hq)
    rw [← e1, ← e2, nmOf_is f so, nmOf_is f sr] at e
    rw [← e1, ← e2]
    exact bo_ext.mpr fun x _ => by rw [← nm_mem f so x, e, nm_mem f sr x]
  have h0 := (key 0).mpr ⟨[], Steps.nil, bo_nil⟩
  cases kvs with
  | nil => cases h0
  | cons kv rest =>
    have z : kv.1 = 0 := by
      rcases List.mem_cons.mp h0 with e | e
      · exact e.symm
      · obtain ⟨q, hq, e⟩ := List.mem_map.mp e
        have le := (List.pairwise_cons.mp h.ord).1 q hq
        rw [show q.1 = 0 from e, show pc 0 = 0 from by decide] at le
        obtain ⟨o, so, e1⟩ := (key kv.1).mp (by simp)
        have p := f.pcs so
        rw [e1] at p
        have : o = [] := List.length_eq_zero_iff.mp (by omega)
        rw [← e1, this]; exact bo_nil
    refine ⟨rest.map fun kv => nmOf os ns kv.1, ?_, ?_⟩
    · rw [List.map_cons, z]
      have := nmOf_is f (Steps.nil (rs := os))
      rw [bo_nil] at this
      rw [this]; simp
    · have e : (kv :: rest).map (fun kv => nmOf os ns kv.1) = [] :: rest.map fun kv => nmOf os ns kv.1 := by
        rw [List.map_cons, z]
        have := nmOf_is f (Steps.nil (rs := os))
        rw [bo_nil] at this
        rw [this]; simp
      rw [← e]
      exact ⟨nd, mem⟩
theorem Aft.small {os : List Rl} {ns : List Str} {n : Nat} {kvs : List (Nat × List Nat)} (h : Aft os ns n kvs) (few : Few os ns) : kvs.length ≤ 128 := by
  have kl : (kvs.map (·.1)).length ≤ (List.range 128).length := h.nd.length_le_of_subset fun g hg => by
    obtain ⟨k, hk, o, st, hl, rfl⟩ := (h.key g).mp hg
    exact List.mem_range.mpr (Nat.lt_of_lt_of_le bo_lt (Nat.pow_le_pow_right (by decide) few.s))
  simpa using kl
def F_plots : FR := fun ds Φ => ∃ (os : List Rl) (ns : List Str), ds = [roomF os ns] ∧ Few os ns ∧ ∀ ms : List (List Str), ms.Nodup → ms.length ≤ 128 → (ms.Pairwise fun a b => GX.ltS a b = true) → (∀ l, l ∈ ms ↔ LotM os l) → Φ (.d (.tup (ms.map fun l => D.tupT (l.map .str))))
theorem ok_plots (T : Txt K mg a) (G_lots_after : FnOk P w K mg base CX0 2 a.f_lots_after a.fd_lots_after ["room"] (spR (ZZ K a) F_lots_after)) (G_names_of : FnOk P w K mg base CX0 1 a.f_names_of a.fd_names_of ["names", "bits"] (spR (ZZ K a) F_names_of)) : FnOk P w K mg base CX0 3 a.f_lots a.fd_lots ["room"] (spR (ZZ K a) F_plots) := by
  refine T.F_lots.ok sc_lots (fun vs H Q E h => ?_) (fun cdv A outer s H vs Q E hr h => ?_)
  · obtain ⟨M, ds, Φ, _, al, ⟨os, ns, rfl, _⟩, _⟩ := h
    exact al.len
  · obtain ⟨M, ds, Φ, ex, al, ⟨os, ns, rfl, few, fin⟩, q⟩ := h
    refine ⟨_, (pss_one (ps_ret (pe_callTy call_tuple_of (by rfl) T.n_tuple (by decide +kernel) (pa_cons (pe_callB (GX.cr_sortTS (units65 hr)) (by rfl) T.n_sorted (by decide +kernel) (pa_cons (pe_lc (own := [("bits", 1)]) (g := (gName 1)) (tt := tYes) rfl sc_lots.nd (pi_keys (GX.pe_lk (pe_call G_lots_after (hr.mono (by decide)) (by rfl) T.m_lots_after T.F_lots_after.kp T.b_lots_after .nil pass0 (pa_cons (pv 0) pa_nil)))) (blkOk_by (N := N_lots) (sc := defScope s_lots) (by decide +kernel)) (fun _ _ _ _ _ => (pg_name (i := 1) sc_lots.nd rfl (Or.inl rfl))) (fun _ _ _ _ _ => pts_nil) (fun _ _ _ _ _ => (pe_call G_names_of (hr.mono (by decide)) (by rfl) T.m_names_of T.F_names_of.kp T.b_names_of .nil pass0 (pa_cons (pe_fldK (K := K) rfl (pv 0) rfl) (pa_cons (pv 1) pa_nil))))) pa_nil)) pa_nil)))), entR (n := 1) ex al rfl q ?_⟩
    walk_at "ent"
    have l7 := few.s
    refine xs_ret <| xe_tuple <| xe_ofO <| xo_sortTK <| xe_ofO <| xo_fg (v := 1) (g := fun g : Nat => .int (g : Int)) (f := fun g => D.tupT ((nmOf os ns g).map .str)) (p := fun _ => true) <| xi_keysN <| xr_call (fun _ => .nil) <| xa_cons <| xe_var rfl <| xa_nil ⟨os, ns, rfl, few, fun kvs aft => on_o ⟨_, rfl, kvs.map (·.1), ?_, rfl, ?_, fun g hg => ?_, _, rfl, ?_⟩⟩
    · rw [List.map_map, List.map_map]; rfl
    · have := aft.small few
      rw [List.length_map]; omega
    · try dsimp only [List.set]
      obtain ⟨k, _, o, so, _, rfl⟩ := (aft.key g).mp hg
      refine xt_yes ⟨rfl, rfl, fun _ => xr_call (fun _ => .nil) <| xa_cons <| xe_mnames T <| xe_var rfl ⟨_, _, rfl, xa_cons <| xe_var rfl <| xa_nil ⟨ns, o, rfl, by omega, on_d ⟨?_, rfl⟩⟩⟩⟩
      rw [nmOf_is few so]
    · rw [show (kvs.map (·.1)).filter (fun _ => true) = kvs.map (·.1) from List.filter_eq_self.mpr fun _ _ => rfl, List.map_map]
      obtain ⟨ls, e, nd, mem⟩ := lots_told few aft
      have pm := List.mergeSort_perm ([] :: ls) GX.leS
      have len : ([] :: ls).length = kvs.length := by rw [← e, List.length_map]
      have l128 := aft.small few
      refine ⟨ls, ?_, _, rfl, _, .inl rfl, fin _ (pm.nodup_iff.mpr nd) (by rw [pm.length_eq, len]; exact l128) (GX.sorted_S nd) fun l => (pm.mem_iff).trans (mem l)⟩
      rw [← e, List.map_map]; rfl
/-! ### rules of names -/
def NmOk (w : Str) : Prop := w.length ≤ sizeLine ∧ nmS w = true
theorem nm_pool {w : Str} (h : w ∈ pool) : NmOk w := ⟨(pool_ok w h).1, (pool_ok w h).2.1⟩
def F_Rule_initN : FB := fun y ds Φ => ∃ (s : Str) (ws : List Str) (g : D), y = .ins 0 [] ∧ ds = [.str s, g] ∧ (g = .lst (ws.map .str) ∨ g = .tup (ws.map .str)) ∧ NmOk s ∧ (∀ w ∈ ws, NmOk w ∧ w ≠ s) ∧ ws.length ≤ 14 ∧ ∀ lot, GS.IsLot lot ws → Φ (.d .non) (.ins 0 [("name", .str s), ("gone", .tup (lot.map .str))])
theorem ok_Rule_initN {ps : List Str} (h : FnOk P w K mg base (L2.CX P w) 3 a.f_Rule_init a.fd_Rule_init ps (spBX (ZZ K a) F_Rule_initX)) : FnOk P w K mg base CX0 3 a.f_Rule_init a.fd_Rule_init ps (spB (ZZ K a) F_Rule_initN) := calmB h fun y ds Φ ⟨s, ws, g, e1, e2, e3, h1, h2, h3, fin⟩ => by
  have nm : isNm (.str s) = true := h1.2
  have bad : badG (.str s) g = false := by
    unfold badG
    rw [hasD_strs e3, decide_eq_false fun q => (h2 s q).2 rfl]
    have : areNm g = true := areNm_iff.mpr ⟨ws, e3, fun w hw => (h2 w hw).1.2⟩
    rw [this]; rfl
  have ok1w : ∀ w, NmOk w → ok1 (.str w) := fun w hw => ⟨⟨_, rfl⟩, fun s e => by cases e; exact hw.1⟩
  refine ⟨.str s, g, e1, e2, ok1w s h1, ⟨⟨by rcases e3 with rfl | rfl <;> exact ⟨_, rfl⟩, fun s e => by rcases e3 with rfl | rfl <;> cases e⟩, fun xs hx => ?_⟩, fun c => (nomatch nm.symm.trans c), fun _ c => (nomatch bad.symm.trans c), fun s' ws' es hw _ _ lot hlot => ?_⟩
  · have e : xs = ws.map .str := by
      rcases e3 with rfl | rfl <;> rcases hx with hx | hx <;> first | exact (D.lst.inj hx).symm | exact (D.tup.inj hx).symm | cases hx
    subst e
    refine ⟨by simp; omega, fun x hx => ?_⟩
    obtain ⟨w, hw, rfl⟩ := List.mem_map.mp hx
    exact ok1w w (h2 w hw).1
  · cases es
    have : ws = ws' := by
      have inj : ∀ {l m : List Str}, l.map D.str = m.map D.str → l = m := fun h => (List.map_inj_right fun _ _ e => D.str.inj e).mp h
      rcases e3 with rfl | rfl <;> rcases hw with hw | hw <;> first | exact inj (D.lst.inj hw) | exact inj (D.tup.inj hw) | cases hw
    subst this
    exact fin lot hlot
def F_is_fulfilled : FR := fun ds Φ => ∃ (r : Str × List Str) (d : D) (gs : List Str), ds = [ruleO r, d] ∧ (d = .lst (gs.map .str) ∨ d = .tup (gs.map .str)) ∧ r.2.length ≤ 1000 ∧ Φ (.d (.bl (r.2.all fun w => decide (w ∈ gs))))
theorem ok_is_fulfilled (T : Txt K mg a) : FnOk P w K mg base CX0 1 a.f_is_fulfilled a.fd_is_fulfilled ["rule", "gone"] (spR (ZZ K a) F_is_fulfilled) := by
  refine T.F_is_fulfilled.ok sc_is_fulfilled (fun vs H Q E h => ?_) (fun cdv A outer s H vs Q E hr h => ?_)
  · obtain ⟨M, ds, Φ, _, al, ⟨n, d, gs, rfl, _⟩, _⟩ := h
    exact al.len
  · obtain ⟨M, ds, Φ, ex, al, ⟨r, d, gs, rfl, hd, hl, fin⟩, q⟩ := h
    refine ⟨_, (pss_one (ps_ret (pe_callB (cr_all rfl) (by rfl) T.n_all (by decide +kernel) (pa_cons (pe_lc (own := [("name", 2)]) (g := (gName 2)) (tt := tYes) rfl sc_is_fulfilled.nd (pi_tupK (K := K) rfl (pe_fldK (K := K) rfl (pv 0) rfl)) (blkOk_by (N := N_is_fulfilled) (sc := defScope s_is_fulfilled) (by decide +kernel)) (fun _ _ _ _ _ => (pg_name (i := 2) sc_is_fulfilled.nd rfl (Or.inl rfl))) (fun _ _ _ _ _ => pts_nil) (fun _ _ _ _ _ => (pe_cmpR (show OpR _ (compareOp .In) (rIn K false) from op_in_seq) (pv 2) (pv 1) rfl))) pa_nil)))), entR (n := 1) ex al rfl q ?_⟩
    walk_at "ent"
    walk_at "xs"
    walk_at "ret"
    refine xe_all (xe_ofO (xo_fg (g := D.str) (f := fun w => D.bl (decide (w ∈ gs))) (p := fun _ => true) (xi_tup (xe_rgone T ?_))))
    walk_at "xs"
    refine ⟨_, _, rfl, _, rfl, r.2, rfl, rfl, by omega, fun x hx => xt_yes ⟨rfl, rfl, fun _ => ?_⟩, _, rfl, ?_⟩
    · walk_at "xs"
      exact ⟨x, gs, rfl, hd, rfl, rfl⟩
    · refine ⟨r.2.map fun w => decide (w ∈ gs), by rw [filter_tt, List.map_map]; rfl, ?_⟩
      rw [List.all_map]
      exact fin
def F_may : FR := fun ds Φ => ∃ (rs : List (Str × List Str)) (x d : D) (gs : List Str), ds = [.obj 1 [.tup (rs.map ruleO), x], d] ∧ (d = .lst (gs.map .str) ∨ d = .tup (gs.map .str)) ∧ rs.length ≤ 1000 ∧ (∀ r ∈ rs, r.2.length ≤ 1000) ∧ ∀ ys, GS.IsLot ys ((rs.filter fun r => !decide (r.1 ∈ gs) && r.2.all fun w => decide (w ∈ gs)).map (·.1)) → Φ (.d (.tup (ys.map .str)))
theorem ok_may (T : Txt K mg a) (G_is_fulfilled : FnOk P w K mg base CX0 1 a.f_is_fulfilled a.fd_is_fulfilled ["rule", "gone"] (spR (ZZ K a) F_is_fulfilled)) (G_lot_of : FnOk P w K mg base CX0 1 a.f_lot_of a.fd_lot_of ["names"] (spR (ZZ K a) F_lot_of)) : FnOk P w K mg base CX0 2 a.f_may a.fd_may ["room", "gone"] (spR (ZZ K a) F_may) := by
  refine T.F_may.ok sc_may (fun vs H Q E h => ?_) (fun cdv A outer s H vs Q E hr h => ?_)
  · obtain ⟨M, ds, Φ, _, al, ⟨rs, x, d, gs, rfl, _⟩, _⟩ := h
    exact al.len
  · obtain ⟨M, ds, Φ, ex, al, ⟨rs, x, d, gs, rfl, hd, hl, hrs, fin⟩, q⟩ := h
    refine ⟨_, (pss_one (ps_ret (pe_call G_lot_of (hr.mono (by decide)) (by rfl) T.m_lot_of T.F_lot_of.kp T.b_lot_of .nil pass0 (pa_cons (pe_lc (own := [("rule", 2)]) (g := (gName 2))  rfl sc_may.nd (pi_tupK (K := K) rfl (pe_fldK (K := K) rfl (pv 0) rfl)) (blkOk_by (N := N_may) (sc := defScope s_may) (by decide +kernel)) (fun _ _ _ _ _ => (pg_name (i := 2) sc_may.nd rfl (Or.inl rfl))) (fun _ _ _ _ _ => pts_one (PW.pt (pw_and (pt_cmpR (show OpR _ (compareOp .NotIn) (rIn K true) from op_notIn_seq) (pe_fldK (K := K) rfl (pv 2) rfl) (pv 1) rfl) (pw_and1 (pt_val (pe_call G_is_fulfilled (hr.mono (by decide)) (by rfl) T.m_is_fulfilled T.F_is_fulfilled.kp T.b_is_fulfilled .nil pass0 (pa_cons (pv 2) (pa_cons (pv 1) pa_nil)))))))) (fun _ _ _ _ _ => (pe_fldK (K := K) rfl (pv 2) rfl))) pa_nil)))), entR (n := 1) ex al rfl q ?_⟩
    walk_at "ent"
    walk_at "xs"
    refine xs_ret (xr_call (fun _ => .nil) ?_)
    walk_at "xs"
    refine xe_ofO (xo_fg (g := ruleO) (f := fun r => D.str r.1) (p := fun r => !decide (r.1 ∈ gs) && r.2.all fun w => decide (w ∈ gs)) (xi_tup (xe_mrules T ?_)))
    walk_at "xs"
    refine ⟨_, _, rfl, _, rfl, rs, rfl, rfl, by omega, fun r hr => ?_, _, rfl, ?_⟩
    · refine xt_and (xt_test (xe_ninT (xe_rname T ?_)))
      walk_at "xs"
      refine ⟨_, _, rfl, ?_⟩
      walk_at "xs"
      refine ⟨r.1, gs, rfl, hd, _, rfl, ?_⟩
      refine ite_b (fun h => ?_) (fun h => ⟨by rw [h]; rfl, rfl, fun z => by cases z⟩)
      rw [h]
      refine xt_B (xr_call (fun _ => .nil) ?_)
      walk_at "xs"
      refine ⟨r, d, gs, rfl, hd, hrs r hr, on_d ⟨_, rfl, rfl, rfl, fun _ => ?_⟩⟩
      refine xe_rname T ?_
      walk_at "xs"
    · walk_at "xs"
      refine ⟨_, .inr (by rw [List.map_map]; rfl), ?_, fun ys hy _ => on_d (fin ys hy)⟩
      rw [List.length_map]
      exact Nat.lt_of_le_of_lt (List.length_filter_le _ _) (by omega)
/-! ### the program: lots -/
def isStrs (d : D) (ws : List Str) : Prop := d = .lst (ws.map .str) ∨ d = .tup (ws.map .str)
def F_others : FR := fun ds Φ => ∃ (os : List Rl) (ns gs : List Str) (d : D), ds = [roomD os ns, d] ∧ isStrs d gs ∧ ns.length ≤ 3000 ∧ Φ (.d (.tup ((ns.filter fun n => !decide (n ∈ gs)).map .str)))
theorem ok_others (T : Txt K mg a) : FnOk P w K mg base CX0 1 a.f_others a.fd_others ["room", "names"] (spR (ZZ K a) F_others) := by
  refine T.F_others.ok sc_others (fun vs H Q E h => ?_) (fun cdv A outer s H vs Q E hr h => ?_)
  · obtain ⟨M, ds, Φ, _, al, ⟨os, ns, gs, d, rfl, _⟩, _⟩ := h
    exact al.len
  · obtain ⟨M, ds, Φ, ex, al, ⟨os, ns, gs, d, rfl, hd, hl, fin⟩, q⟩ := h
    refine ⟨_, (pss_one (ps_ret (pe_callTy call_tuple_of (by rfl) T.n_tuple (by decide +kernel) (pa_cons (pe_lc (own := [("name", 2)]) (g := (gName 2))  rfl sc_others.nd (pi_tupK (K := K) rfl (pe_fldK (K := K) rfl (pv 0) rfl)) (blkOk_by (N := N_others) (sc := defScope s_others) (by decide +kernel)) (fun _ _ _ _ _ => (pg_name (i := 2) sc_others.nd rfl (Or.inl rfl))) (fun _ _ _ _ _ => pts_one (pt_cmpR (show OpR _ (compareOp .NotIn) (rIn K true) from op_notIn_seq) (pv 2) (pv 1) rfl)) (fun _ _ _ _ _ => (pv 2))) pa_nil)))), entR (n := 1) ex al rfl q ?_⟩
    walk_at "ent"
    refine xs_ret (xe_tuple (xe_ofO (xo_fg (g := D.str) (f := D.str) (p := fun n => !decide (n ∈ gs)) (xi_tup (xe_mnames T ?_)))))
    walk_at "xs"
    refine ⟨_, _, rfl, _, rfl, ns, rfl, rfl, by omega, fun x hx => ?_, _, rfl, _, .inl rfl, fin⟩
    walk_at "xs"
    exact ⟨x, gs, rfl, hd, _, rfl, rfl, rfl, fun _ => xe_var rfl ⟨rfl, rfl⟩⟩
def F_leavers : FR := fun ds Φ => ∃ (os : List Rl) (ns st g : List Str) (d e : D), ds = [roomD os ns, d, e] ∧ isStrs d st ∧ isStrs e g ∧ g.Nodup ∧ g.length ≤ 3000 ∧ os.length ≤ 200 ∧ (∀ r ∈ os, r.2.length ≤ 14) ∧ ∀ l, Leav os st g l → Φ (.own (.lst (l.map .str)))
theorem ok_leavers (T : Txt K mg a) (G_may : FnOk P w K mg base CX0 2 a.f_may a.fd_may ["room", "gone"] (spR (ZZ K a) F_may)) : FnOk P w K mg base CX0 3 a.f_leavers a.fd_leavers ["room", "staying", "gone"] (spR (ZZ K a) F_leavers) := by
  refine T.F_leavers.ok sc_leavers (fun vs H Q E h => ?_) (fun cdv A outer s H vs Q E hr h => ?_)
  · obtain ⟨M, ds, Φ, _, al, ⟨os, ns, st, g, d, e, rfl, _⟩, _⟩ := h
    exact al.len
  · obtain ⟨M, ds, Φ, ex, al, ⟨os, ns, st, g, d, e, rfl, hd, he, ng, lg, lo, hw, fin⟩, q⟩ := h
    refine ⟨_, PSs.nox ((pss_cons (ps_set (i := 3) sc_leavers.nd rfl (Or.inl rfl) (pe_callTy call_list_of (by rfl) T.n_list (by decide +kernel) (pa_cons (pv 2) pa_nil)))
      (pss_one (ps_while PassesOwn.never (pt_val pe_bl) (pss_cons (ps_setLc (own := [("name", 5)]) (g := (gName 5))  (i := 4) rfl sc_leavers.nd rfl rfl (sw_true rfl rfl rfl (by decide +kernel)) (pi_tupK (K := K) rfl (pe_call G_may (hr.mono (by decide)) (by rfl) T.m_may T.F_may.kp T.b_may .nil pass0 (pa_cons (pv 0) (pa_cons (pv 3) pa_nil)))) (blkOk_by (N := N_leavers) (sc := defScope s_leavers) (by decide +kernel)) (fun _ _ _ _ _ => (pg_name (i := 5) sc_leavers.nd rfl (Or.inl rfl))) (fun _ _ _ _ _ => pts_one (pt_cmpR (show OpR _ (compareOp .NotIn) (rIn K true) from op_notIn_seq) (pv 5) (pv 1) rfl)) (fun _ _ _ _ _ => (pv 5)))
      (pss_cons (ps_if (pt_not (pt_truth (pv 4) (by intro _; rfl))) (pss_one (ps_ret (pv 3))) pss_nil)
      (pss_one (ps_expr (pe_bm PySem.F.plainAttrs_list PySem.F.slot_list_extend PySem.F.type_list_extend mt_extend (pv 3) (pa_cons (pv 4) pa_nil)))))))))), entR (n := 3) ex al rfl q ?_⟩
    walk_at "ent"
    refine xs_seq (xs_setO (by decide) (xo_list ?_))
    walk_at "xs"
    refine ⟨g.map .str, he, (show 3 < 6 by decide), ?_⟩
    walk_at "xs"
    refine xs_while (fun m δ => ∃ (l : List Str) (s : S), δ = [.d (roomD os ns), .d d, .d e, .own (.lst (l.map .str)), s, .no] ∧ Run os st g l ∧ m = ((os.map (·.1)).filter fun x => !decide (x ∈ l)).length) ⟨_, g, _, rfl, .refl g, rfl⟩ ?_
    rintro m δ1 ⟨l, s, rfl, hr, rfl⟩
    have nl : l.Nodup := hr.nodup ng
    have ll : l.length ≤ 3200 := by
      have := nodup_len nl (ss := g ++ os.map (·.1)) fun x hx => List.mem_append.mpr ((hr.named x hx).imp id fun ⟨ws, h⟩ => List.mem_map.mpr ⟨_, h, rfl⟩)
      rw [List.length_append, List.length_map] at this
      omega
    walk_at "xs"
    refine xs_set (by decide) (xe_ofO (xo_fg (g := D.str) (f := D.str) (p := fun n => !decide (n ∈ st)) (xi_tup (xr_callL2 (fun _ => .nil) ?_))))
    walk_at "xs"
    refine ⟨os, _, _, l, rfl, .inl rfl, by omega, fun r hr => Nat.le_trans (hw r hr) (by decide), fun ys hy => ⟨by simp [Loose, looseD, loose1], on_d ?_⟩⟩
    have hy : GS.IsLot ys (mayS os l) := hy
    have ny := GS.Asc.nodup hy.asc
    have ly : ys.length ≤ os.length := by
      have := nodup_len ny (ss := os.map (·.1)) fun x hx => (by
        obtain ⟨_, ws, h, _⟩ := mem_may.mp ((hy.mem x).mp hx)
        exact List.mem_map.mpr ⟨_, h, rfl⟩)
      simpa using this
    refine ⟨_, rfl, ys, rfl, rfl, by omega, fun x hx => ?_, _, rfl, ?_⟩
    · walk_at "xs"
      exact ⟨x, st, rfl, hd, _, rfl, rfl, rfl, fun _ => xe_var rfl ⟨rfl, rfl⟩⟩
    · walk_at "xs"
      generalize hf : (ys.filter fun n => !decide (n ∈ st)) = fs
      have mf : ∀ x, x ∈ fs ↔ x ∈ mayS os l ∧ x ∉ st := fun x => by
        rw [← hf, List.mem_filter, hy.mem]
        simp
      have nf : fs.Nodup := by rw [← hf]; exact ny.filter _
      have lf : fs.length ≤ os.length := by rw [← hf]; exact Nat.le_trans (List.length_filter_le _ _) ly
      cases fs with
      | nil =>
        refine xt_truth (xe_var rfl ⟨nofun, false, rfl, ?_⟩)
        walk_at "xs"
        refine xs_retV (by decide) rfl (fin l ⟨hr, fun x hx => ?_⟩)
        by_cases c : x ∈ st
        · exact c
        · exact absurd ((mf x).mpr ⟨hx, c⟩) (by simp)
      | cons f fs =>
        refine xt_truth (xe_var rfl ⟨nofun, true, rfl, ?_⟩)
        walk_at "xs"
        obtain ⟨f1, f2⟩ := (mf f).mp (by simp)
        obtain ⟨f3, ws, f4, _⟩ := mem_may.mp f1
        refine xe_ext ⟨_, rfl⟩ (xe_var rfl ⟨l.map .str, (f :: fs).map .str, rfl, rfl, by simp at lf ⊢; omega, _, ?_, l ++ f :: fs, .d (.lst ((f :: fs).map .str)), by simp, hr.batch nf (fun x hx => (mf x).mp hx), rfl⟩)
        refine filter_lt (fun x h => ?_) (List.mem_map.mpr ⟨_, f4, rfl⟩) (by simpa using f3) (by simp)
        simp only [Bool.not_eq_true', decide_eq_false_iff_not] at h ⊢
        exact fun q => h (List.mem_append_left _ q)
def F_hull : FR := fun ds Φ => ∃ (os : List Rl) (ns st : List Str) (d : D), ds = [roomD os ns, d] ∧ isStrs d st ∧ RoomOk os ns ∧ (∀ x ∈ st, x ∈ ns) ∧ ∀ hs, IsHull os ns st hs → Φ (.d (.tup (hs.map .str)))
theorem ok_hull (T : Txt K mg a) (G_others : FnOk P w K mg base CX0 1 a.f_others a.fd_others ["room", "names"] (spR (ZZ K a) F_others)) (G_leavers : FnOk P w K mg base CX0 3 a.f_leavers a.fd_leavers ["room", "staying", "gone"] (spR (ZZ K a) F_leavers)) : FnOk P w K mg base CX0 4 a.f_hull a.fd_hull ["room", "staying"] (spR (ZZ K a) F_hull) := by
  refine T.F_hull.ok sc_hull (fun vs H Q E h => ?_) (fun cdv A outer s H vs Q E hr h => ?_)
  · obtain ⟨M, ds, Φ, _, al, ⟨os, ns, st, d, rfl, _⟩, _⟩ := h
    exact al.len
  · obtain ⟨M, ds, Φ, ex, al, ⟨os, ns, st, d, rfl, hd, ok, hs, fin⟩, q⟩ := h
    obtain ⟨_, V_leavers_1, B_leavers_1⟩ := T.b1_leavers
    refine ⟨_, PSs.nox ((pss_cons (ps_for PassesOwn.never rfl (G.pi_or (pi_list (pv 1)) (pi_tupK (K := K) rfl (pv 1))) (pg_name (i := 2) sc_hull.nd rfl (Or.inl rfl))
      (pss_one (ps_if (pt_cmpR (show OpR _ (compareOp .NotIn) (rIn K true) from op_notIn_seq) (pv 2) (pe_fldK (K := K) rfl (pv 0) rfl) rfl) (pss_one ps_never) pss_nil)))
      (pss_one (ps_ret (pe_call G_others (hr.mono (by decide)) (by rfl) T.m_others T.F_others.kp T.b_others .nil pass0 (pa_cons (pv 0) (pa_cons (pe_call G_leavers (hr.mono (by decide)) (by rfl) T.m_leavers T.F_leavers.kp B_leavers_1 V_leavers_1 pass0 (pa_cons (pv 0) (pa_cons (pv 1) pa_nil))) pa_nil))))))), entR (n := 1) ex al rfl q ?_⟩
    walk_at "ent"
    walk_at "xs"
    refine xs_for (vs := [2]) (xi_seqV rfl hd ?_)
    refine ⟨fun i δ => ∃ s : S, δ = [.d (roomD os ns), .d d, s], ⟨_, rfl⟩, ?_, ?_⟩
    · rintro i x δ1 hi ⟨s, rfl⟩
      obtain ⟨y, hy, rfl⟩ : ∃ y, st[i]? = some y ∧ D.str y = x := by simpa using hi
      refine xg_name (by decide) (by decide) ?_
      walk_at "xs"
      refine xe_mnames T (xe_var rfl ⟨_, _, rfl, y, ns, rfl, .inr rfl, _, rfl, ?_⟩)
      rw [decide_eq_true (hs y (List.mem_of_getElem? hy))]
      walk_at "xs"
      exact ⟨_, rfl⟩
    · rintro δ1 ⟨s, rfl⟩
      refine xs_ret (xr_call (fun _ => .nil) (xa_cons (xe_var rfl (xa_cons (xe_ofO (xr_call (dds := [.tup []]) (fun M => AtL.one (At.tup (Z := ZZ K a) (vs := []) (ds := []) (T.t_leavers M) rfl (fun i v d h => by simp at h))) (xa_cons (xe_var rfl (xa_cons (xe_var rfl (xa_nil ?_)))))))))))
      refine ⟨os, ns, st, [], d, .tup [], rfl, hd, .inr rfl, by simp, by simp, ok.l, ok.w, fun l hl => ?_⟩
      exact ⟨_, rfl, xa_nil ⟨os, ns, l, _, rfl, .inl rfl, ok.len, on_d (fin _ ⟨l, hl, rfl⟩)⟩⟩
def F_stuck : FR := fun ds Φ => ∃ (os : List Rl) (ns : List Str), ds = [roomD os ns] ∧ RoomOk os ns ∧ ∀ hs, IsHull os ns [] hs → Φ (.d (.tup (hs.map .str)))
theorem ok_stuck (T : Txt K mg a) (G_hull : FnOk P w K mg base CX0 4 a.f_hull a.fd_hull ["room", "staying"] (spR (ZZ K a) F_hull)) : FnOk P w K mg base CX0 5 a.f_stuck a.fd_stuck ["room"] (spR (ZZ K a) F_stuck) := by
  refine T.F_stuck.ok sc_stuck (fun vs H Q E h => ?_) (fun cdv A outer s H vs Q E hr h => ?_)
  · obtain ⟨M, ds, Φ, _, al, ⟨os, ns, rfl, _⟩, _⟩ := h
    exact al.len
  · obtain ⟨M, ds, Φ, ex, al, ⟨os, ns, rfl, ok, fin⟩, q⟩ := h
    refine ⟨_, (pss_one (ps_ret (pe_call G_hull (hr.mono (by decide)) (by rfl) T.m_hull T.F_hull.kp T.b_hull .nil pass0 (pa_cons (pv 0) (pa_cons (pe_tup pa_nil) pa_nil))))), entR (n := 0) ex al rfl q ?_⟩
    walk_at "ent"
    refine xs_ret (xr_call (fun _ => .nil) (xa_cons (xe_var rfl (xa_cons (xe_tup (xa_nil ⟨by decide, xa_nil ?_⟩))))))
    exact ⟨os, ns, [], .tup [], rfl, .inr rfl, ok, by simp, fun hs h => on_d (fin hs h)⟩
theorem strs_inj {ws us : List Str} (h : ws.map D.str = us.map D.str) : ws = us := List.map_inj_right (fun _ _ e => D.str.inj e) |>.mp h
theorem isStrs_uniq {d : D} {ws us : List Str} (h : isStrs d ws) (k : isStrs d us) : ws = us := by
  rcases h with rfl | rfl <;> rcases k with k | k
  · exact strs_inj (D.lst.inj k)
  · cases k
  · cases k
  · exact strs_inj (D.tup.inj k)
theorem isStrs.len {d : D} {ws : List Str} (h : isStrs d ws) : lenD d = some ws.length := by
  rcases h with rfl | rfl <;> simp [lenD]
theorem len_iff {l ws : List Str} (h : ∀ x, x ∈ l ↔ x ∈ ws) (n : l.Nodup) : l.length = ws.length ↔ ws.Nodup :=
  ⟨fun e => (GS.perm_of_sub n (fun x => (h x).mp) e.symm).nodup_iff.mpr n, fun m => Nat.le_antisymm (nodup_len n fun x => (h x).mp) (nodup_len m fun x => (h x).mpr)⟩
/-! ### are_unlike -/
def F_are_unlike : FR := fun ds Φ => ∃ d, ds = [d] ∧ okS d ∧ ∀ b, (b = true ↔ ∃ ws : List Str, isStrs d ws ∧ (∀ w ∈ ws, nmS w = true) ∧ ws.Nodup) → Φ (.d (.bl b))
theorem ok_are_unlike (T : Txt K mg a) (G_are_names : FnOk P w K mg base CX0 2 a.f_are_names a.fd_are_names ["value"] (spR (ZZ K a) F_are_names)) : FnOk P w K mg base CX0 3 a.f_are_unlike a.fd_are_unlike ["value"] (spR (ZZ K a) F_are_unlike) := by
  refine T.F_are_unlike.ok sc_are_unlike (fun vs H Q E h => ?_) (fun cdv A outer s H vs Q E hr h => ?_)
  · obtain ⟨M, ds, Φ, _, al, ⟨d, rfl, _⟩, _⟩ := h
    exact al.len
  · obtain ⟨M, ds, Φ, ex, al, ⟨d, rfl, hd, fin⟩, q⟩ := h
    refine ⟨_, (pss_one (ps_ret (pe_and (pe_call G_are_names (hr.mono (by decide)) (by rfl) T.m_are_names T.F_are_names.kp T.b_are_names .nil pass0 (pa_cons (pv 0) pa_nil)) (pe_one (pe_cmpR op_eq (pe_callB GS.cr_lenSet (by rfl) T.n_len PySem.boot_len (pa_cons (pe_callTy (GS.cr_set rfl) (by rfl) T.n_set (by decide +kernel) (pa_cons (pv 0) pa_nil)) pa_nil)) (pe_callB (show CallR _ (.builtin "len") (G.rLen K) from call_len) (by rfl) T.n_len PySem.boot_len (pa_cons (pv 0) pa_nil)) (nomark _)))))), entR (n := 0) ex al rfl q ?_⟩
    walk_at "ent"
    walk_at "ret"
    refine xr_call (fun _ => .nil) (xa_cons (xe_var rfl (xa_nil ⟨d, rfl, hd, on_d ⟨_, rfl, ?_⟩⟩)))
    by_cases c : areNm d = true
    · rw [if_pos c]
      obtain ⟨ws, hw, hn⟩ := areNm_iff.mp c
      have lw : ws.length ≤ 3000 := by
        rcases hw with rfl | rfl
        · simpa using (hd.2 _ (.inl rfl)).1
        · simpa using (hd.2 _ (.inr rfl)).1
      refine xe_eq (xe_lenSet rfl (xe_var rfl ⟨ws, hw, by omega, fun l h1 h2 => ?_⟩))
      walk_at "xs"
      refine ⟨_, isStrs.len hw, _, _, rfl, rfl, rfl, fin _ ⟨fun e => ⟨ws, hw, hn, (len_iff h1 h2).mp ?_⟩, fun ⟨us, h3, _, h4⟩ => ?_⟩⟩
      · have := V.int.inj (of_decide_eq_true e)
        omega
      · have := (len_iff h1 h2).mpr (isStrs_uniq hw h3 ▸ h4)
        simp [this]
    · rw [if_neg c]
      exact fin false ⟨nofun, fun ⟨ws, h1, h2, _⟩ => absurd (areNm_iff.mpr ⟨ws, h1, h2⟩) c⟩
theorem xe_addS {Z : Wd} {δ : List S} {ta tb : TE} {Φ : D → List S → Prop} (h : XE Z ta δ fun a δ1 => XE Z tb δ1 fun b δ2 => ∃ i j : Str, a = .str i ∧ b = .str j ∧ i.length + j.length ≤ sizeLine ∧ Φ (.str (i ++ j)) δ2) :
    XE Z (tOp (fun x y H Q => ∃ i j : Str, x = .str i ∧ y = .str j ∧ i.length + j.length ≤ sizeLine ∧ Q (.str (i ++ j)) H) ta tb) δ Φ := XE.mk fun B W M H σ Q I q =>
  h.run I fun M1 H1 δ1 x a h1 e1 I1 at1 => XE.run h1 I1 fun M2 H2 δ2 y b h2 e2 I2 at2 => by
    obtain ⟨i, j, rfl, rfl, l, f⟩ := h2
    cases at1; cases at2
    exact ⟨i, j, rfl, rfl, l, q M2 H2 δ2 _ _ f (e1.tr e2) I2 .str⟩
/-! ### names drawn -/
theorem xs_mid {Z : Wd} {bs : List Nat} {ts : TS} {δ : List S} {P : Po} {J : List S → Prop} (h : XS Z bs ts δ { P with N := J }) (k : ∀ δ', J δ' → P.N δ') : XS Z bs ts δ P := fun B W M H σ E hb I e =>
  h B W M H σ E hb I ⟨fun M' H' σ' δ' j x I' => e.nx M' H' σ' δ' (k δ' j) x I', e.rt, e.bk, e.ct, e.xc⟩
theorem letter_at : ∀ i : Fin 26, atI letters.cps.toList (i.val : Int) = some (97 + i.val) := by decide +kernel
theorem mulq_len : ∀ t : Fin 3, (Txt.mul "q" ((t.val : Nat) : Int)).length = t.val := by decide +kernel
theorem nmq_head (c t : Nat) : TL.tl (nmQ c t) = (97 + c) :: TL.tl (Txt.mul "q" (t : Int)) := by
  unfold nmQ
  show TL.tl (_ ++ _) = _
  exact Array.toList_append ..
theorem nmq_inj {c d t : Nat} (h : nmQ c t = nmQ d t) : c = d := by
  have := congrArg TL.tl h
  rw [nmq_head, nmq_head] at this
  have := (List.cons.inj this).1
  omega
theorem nmq_in {c t : Nat} (hc : c < 26) (ht : t < 3) : nmQ c t ∈ pool := by
  unfold pool
  exact List.mem_flatMap.mpr ⟨t, List.mem_range.mpr ht, List.mem_map.mpr ⟨c, List.mem_range.mpr hc, rfl⟩⟩
theorem step5 {s i j : Nat} (hi : i < 26) (hj : j < 26) (h : (s + 5 * i) % 26 = (s + 5 * j) % 26) : i = j := by omega
def F_names : FD := fun y ds Φ => ∃ b : Int, ds = [.int b] ∧ 0 ≤ b ∧ b ≤ 9 ∧ DealD y ∧ ∀ (ns : List Str) y', ns.Nodup → (∀ n ∈ ns, n ∈ pool) → (ns.length : Int) = b → DealD y' → Φ (.own (.lst (ns.map .str))) y'
theorem ok_names3 (T : Txt K mg a) (G_lw_draw : FnOk P w K mg base CX0 1 a.f_lw_draw a.fd_lw_draw ["_law_deal_here", "_law_bound"] (spD (ZZ K a) F_draw)) : FnOk P w K mg base CX0 2 a.f_lw_names a.fd_lw_names ["_law_deal_here", "_law_bound"] (spD (ZZ K a) F_names) := by
  refine T.F_lw_names.ok sc_lw_names (fun vs H Q E h => ?_) (fun cdv A outer s H vs Q E hr h => ?_)
  · obtain ⟨M, p, q, y, ws, ds, Φ, rfl, _, _, al, ⟨b, rfl, _⟩, _⟩ := h
    simp [al.len]
  · obtain ⟨M, p, q, y, ws, ds, Φ, rfl, so, ex, al, ⟨b, rfl, b0, b1, hy, k⟩, fin⟩ := h
    refine ⟨_, (pss_cons (ps_asg (pe_tup (pa_cons pe_str (pa_cons (pe_call G_lw_draw (hr.mono (by decide)) (by rfl) T.m_lw_draw T.F_lw_draw.kp T.b_lw_draw .nil pass0 (pa_cons (pv 0) (pa_cons pe_int pa_nil))) (pa_cons (pe_op GX.op_mulS pe_str (pe_call G_lw_draw (hr.mono (by decide)) (by rfl) T.m_lw_draw T.F_lw_draw.kp T.b_lw_draw .nil pass0 (pa_cons (pv 0) (pa_cons pe_int pa_nil)))) pa_nil)))) (pg_tup rfl (pgs_cons (pg_name (i := 2) sc_lw_names.nd rfl (Or.inr rfl)) (pgs_cons (pg_name (i := 3) sc_lw_names.nd rfl (Or.inr rfl)) (pgs_cons (pg_name (i := 4) sc_lw_names.nd rfl (Or.inr rfl)) pgs_nil)))))
      (pss_one (ps_ret (pe_lc (own := [("_law_k", 5)]) (g := (gName 5)) (tt := tYes) rfl sc_lw_names.nd (pi_range1 (by rfl) T.n_range (pa_cons (pv 1) pa_nil)) (blkOk_by (N := N_lw_names) (sc := defScope s_lw_names) (by decide +kernel)) (fun _ _ _ _ _ => (pg_name (i := 5) sc_lw_names.nd rfl (Or.inl rfl))) (fun _ _ _ _ _ => pts_nil) (fun _ _ _ _ _ => (pe_op op_add_str (pe_ix (show IxR _ (rIx K) from ix_seq) (pv 2) (pe_op op_mod (pe_callTy (T := "int") call_int1 (by rfl) T.n_int (by decide +kernel) (pa_cons (pe_op op_add (pv 3) (pe_op op_mulW pe_int (pv 5))) pa_nil)) pe_int) (fun _ _ => rfl)) (pv 4))))))), entD (n := 4) so ex al rfl fin ?_⟩
    walk_at "ent"
    have lq : ("q" : Str).length ≤ 16 := by decide
    refine xs_seq <| xs_asg (vs := [2, 3, 4]) <| xe_tup <| xa_cons <| xe_str <| xa_cons <| xr_callD (i := 0) (fun _ => .nil) ⟨_, _, _, rfl⟩ <| xa_cons <| xe_int <| xa_nil ⟨q, y, rfl, _, rfl, by omega, by omega, hy, fun d1 y1 d10 d11 hy1 => on_d <| xa_cons <| xe_mulS <| xe_str <| xr_callD (i := 0) (fun _ => .nil) ⟨_, _, _, rfl⟩ <| xa_cons <| xe_int <| xa_nil ⟨q, y1, rfl, _, rfl, by omega, by omega, hy1, fun d2 y2 d20 d21 hy2 => on_d ⟨_, _, rfl, rfl, lq, d20, by omega, xa_nil ⟨by simp, xg_tup rfl <| xgs_cons <| xg_name (by decide) (by decide) <| xgs_cons <| xg_name (by decide) (by decide) <| xgs_cons <| xg_name (by decide) (by decide) <| xgs_nil ?_⟩⟩⟩⟩
    obtain ⟨s, rfl⟩ : ∃ s : Nat, d1 = s := ⟨d1.toNat, by omega⟩
    obtain ⟨t, rfl⟩ : ∃ t : Nat, d2 = t := ⟨d2.toNat, by omega⟩
    have ht : t < 3 := by omega
    have hl := mulq_len ⟨t, ht⟩
    dsimp only at hl
    try dsimp only [List.set]
    have f : ∀ i : Nat, (0 : Int) ≤ ((s : Int) + 5 * i) % 26 ∧ ((s : Int) + 5 * i) % 26 = (((s + 5 * i) % 26 : Nat) : Int) := fun i => ⟨by omega, by omega⟩
    refine xs_retO <| xo_fg (v := 5) (g := fun i : Nat => D.int (0 + (i : Int))) (f := fun i : Nat => D.str (nmQ ((s + 5 * i) % 26) t)) (p := fun _ => true) <| xi_rng1 <| xe_var rfl ⟨_, rfl, by omega, by omega, List.range b.toNat, rfl, rfl, by rw [List.length_range]; omega, fun i hi => xt_yes ⟨rfl, rfl, fun _ => xe_addS <| xe_ix <| xe_var rfl <| xe_I <| xe_callInt <| xe_I0 <| xe_var rfl <| xe_I <| xe_int <| xe_var rfl ?_⟩, ?_⟩
    · have hi := List.mem_range.mp hi
      have e : ((s : Int) + 5 * (0 + (i : Int))) % 26 = (((s + 5 * i) % 26 : Nat) : Int) := by omega
      have hc : (s + 5 * i) % 26 < 26 := Nat.mod_lt _ (by decide)
      refine ⟨_, _, rfl, rfl, mulw (by omega) (by omega), _, _, rfl, rfl, _, rfl, xe_int ⟨_, _, rfl, rfl, by omega, _, .str ⟨#[97 + (s + 5 * i) % 26]⟩, rfl, ?_, xe_var rfl ⟨_, _, rfl, rfl, ?_, rfl, rfl⟩⟩⟩
      · rw [e]
        have := letter_at ⟨(s + 5 * i) % 26, hc⟩
        dsimp only at this
        show (if letters.length ≤ sizeLine then (atI letters.cps.toList _).map fun c => D.str ⟨#[c]⟩ else none) = _
        rw [if_pos (by rw [sizeLine_eq]; decide), this]; rfl
      · rw [hl]
        show 1 + t ≤ sizeLine
        rw [sizeLine_eq]; omega
    · rw [filter_tt, show (fun i : Nat => D.str (nmQ ((s + 5 * i) % 26) t)) = D.str ∘ (fun i : Nat => nmQ ((s + 5 * i) % 26) t) from rfl, ← List.map_map]
      refine ⟨y2, rfl, k _ y2 ?_ ?_ ?_ hy2⟩
      · refine List.pairwise_map.mpr (List.Pairwise.imp_of_mem (fun {i j} hi hj ne e => ?_) (List.nodup_range (n := b.toNat)))
        have hi := List.mem_range.mp hi
        have hj := List.mem_range.mp hj
        exact ne (step5 (by omega) (by omega) (nmq_inj e))
      · intro n hn
        obtain ⟨i, _, rfl⟩ := List.mem_map.mp hn
        exact nmq_in (Nat.mod_lt _ (by decide)) ht
      · simp; omega
/-! ### one of some -/
def F_pick3 : FD := fun y ds Φ => ∃ (xs : List D) (d : D), ds = [d] ∧ (d = .lst xs ∨ d = .tup xs) ∧ 0 < xs.length ∧ xs.length ≤ 1073741823 ∧ DealD y ∧ ∀ x y', x ∈ xs → DealD y' → Φ (.d x) y'
theorem ok_pick3 (T : Txt K mg a) (G_lw_draw : FnOk P w K mg base CX0 1 a.f_lw_draw a.fd_lw_draw ["_law_deal_here", "_law_bound"] (spD (ZZ K a) F_draw)) : FnOk P w K mg base CX0 2 a.f_lw_pick a.fd_lw_pick ["_law_deal_here", "_law_some"] (spD (ZZ K a) F_pick3) := by
  refine T.F_lw_pick.ok sc_lw_pick (fun vs H Q E h => ?_) (fun cdv A outer s H vs Q E hr h => ?_)
  · obtain ⟨M, p, q, y, ws, ds, Φ, rfl, _, _, al, ⟨xs, d, rfl, _⟩, _⟩ := h
    simp [al.len]
  · obtain ⟨M, p, q, y, ws, ds, Φ, rfl, so, ex, al, ⟨xs, d, rfl, hd, h0, h1, hy, k⟩, fin⟩ := h
    refine ⟨_, (pss_one (ps_ret (pe_ix (show IxR _ (rIx K) from ix_seq) (pv 1) (pe_call G_lw_draw (hr.mono (by decide)) (by rfl) T.m_lw_draw T.F_lw_draw.kp T.b_lw_draw .nil pass0 (pa_cons (pv 0) (pa_cons (pe_callB (show CallR _ (.builtin "len") (G.rLen K) from call_len) (by rfl) T.n_len PySem.boot_len (pa_cons (pv 1) pa_nil)) pa_nil))) (fun _ _ => rfl)))), entD (n := 0) so ex al rfl fin ?_⟩
    walk_at "ent"
    have el : lenD d = some xs.length := by rcases hd with rfl | rfl <;> rfl
    refine xs_ret <| xe_ix <| xe_var rfl <| xr_callD (i := 0) (fun _ => .nil) ⟨_, _, _, rfl⟩ <| xa_cons <| xe_len <| xe_var rfl ⟨xs.length, el, xa_nil ⟨q, y, rfl, xs.length, rfl, by omega, by omega, hy, fun i y' i0 i1 hy' => on_d ?_⟩⟩
    obtain ⟨v, hv⟩ := atI_some (xs := xs) i0 (by omega)
    obtain ⟨_, _, hj, _⟩ := L2.atI_get hv
    exact ⟨_, v, rfl, by rcases hd with rfl | rfl <;> exact hv, y', rfl, k v y' (List.mem_of_getElem? hj) hy'⟩
/-! ### least sets that meet all of some sets, as numbers -/
def Sub (a b : Nat) : Prop := ∀ i, a.testBit i = true → b.testBit i = true
def Mts (a b : Nat) : Prop := ∃ i, a.testBit i = true ∧ b.testBit i = true
theorem and_sub {a b : Nat} : a &&& b = b ↔ Sub b a := by
  constructor
  · intro h i hi
    rw [← h, Nat.testBit_and, Bool.and_eq_true] at hi
    exact hi.1
  · intro h
    refine Nat.eq_of_testBit_eq fun i => ?_
    rw [Nat.testBit_and]
    cases e : b.testBit i with
    | false => simp
    | true => rw [h i e]; rfl
theorem and_mts {a b : Nat} : a &&& b ≠ 0 ↔ Mts a b := by
  constructor
  · intro h
    obtain ⟨i, hi⟩ := Nat.exists_testBit_of_ne_zero h
    rw [Nat.testBit_and, Bool.and_eq_true] at hi
    exact ⟨i, hi⟩
  · rintro ⟨i, h1, h2⟩ e
    have : (a &&& b).testBit i = true := by rw [Nat.testBit_and, h1, h2]; rfl
    rw [e, Nat.zero_testBit] at this
    cases this
theorem Sub.refl (a : Nat) : Sub a a := fun _ h => h
theorem Sub.trans {a b c : Nat} (h : Sub a b) (k : Sub b c) : Sub a c := fun i z => k i (h i z)
theorem Sub.eq {a b : Nat} (h : Sub a b) (k : Sub b a) : a = b := Nat.eq_of_testBit_eq fun i => by
  cases e : a.testBit i with
  | true => exact (h i e).symm
  | false =>
    cases f : b.testBit i with
    | false => rfl
    | true => rw [k i f] at e; cases e
theorem Sub.le {a b : Nat} (h : Sub a b) : a ≤ b := by
  have := and_sub.mpr h
  rw [← this]; exact Nat.and_le_left
theorem Mts.sub {a b c : Nat} (h : Mts a c) (k : Sub a b) : Mts b c := by
  obtain ⟨i, h1, h2⟩ := h
  exact ⟨i, k i h1, h2⟩
def Hits (ps : List Nat) (r : Nat) : Prop := ∀ p ∈ ps, Mts r p
theorem Hits.sub {ps : List Nat} {a b : Nat} (h : Hits ps a) (k : Sub a b) : Hits ps b := fun p hp => (h p hp).sub k
/-- r meets all, and nothing less does -/
structure MinHit (ps : List Nat) (r : Nat) : Prop where
  h : Hits ps r
  m : ∀ q, Sub q r → Hits ps q → q = r
theorem min_of {ps : List Nat} : ∀ (n : Nat) {r : Nat}, r ≤ n → Hits ps r → ∃ q, Sub q r ∧ MinHit ps q := fun n => by
  induction n with
  | zero =>
    intro r l h
    refine ⟨r, .refl r, h, fun q hq _ => ?_⟩
    have := hq.le; omega
  | succ n ih =>
    intro r l h
    by_cases c : ∃ q, Sub q r ∧ Hits ps q ∧ q ≠ r
    · obtain ⟨q, h1, h2, h3⟩ := c
      have := h1.le
      obtain ⟨q', s, m⟩ := ih (r := q) (by omega) h2
      exact ⟨q', s.trans h1, m⟩
    · refine ⟨r, .refl r, h, fun q hq hh => Classical.byContradiction fun z => c ⟨q, hq, hh, z⟩⟩
def ones (p : Nat) : List Nat := ((List.range 7).filter fun i => p.testBit i).map fun i => 2 ^ i
structure Least (ps : List Nat) (rs : List Nat) : Prop where
  nd : rs.Nodup
  is : ∀ r, r ∈ rs ↔ MinHit ps r
  lt : ∀ r ∈ rs, r < 128
theorem Least.len {ps rs : List Nat} (h : Least ps rs) : rs.length ≤ 128 := by
  have := h.nd.length_le_of_subset (l₂ := List.range 128) fun r hr => List.mem_range.mpr (h.lt r hr)
  simpa using this
theorem Least.nil : Least [] [0] := by
  refine ⟨by simp, fun r => ?_, by simp⟩
  rw [List.mem_singleton]
  constructor
  · intro e; subst e
    refine ⟨fun p hp => (nomatch hp), fun q hq _ => ?_⟩
    have := hq.le; omega
  · intro m
    exact (m.m 0 (fun i h => by rw [Nat.zero_testBit] at h; cases h) fun p hp => (nomatch hp)).symm
def wid (rs : List Nat) (p : Nat) : List Nat := rs.flatMap fun l => if l &&& p = 0 then (ones p).map fun o => l ||| o else []
def meet (rs : List Nat) (p : Nat) : List Nat := rs.filter fun l => decide (l &&& p ≠ 0)
def nxtL (rs : List Nat) (p : Nat) : List Nat := meet rs p ++ (wid rs p).filter fun l => !(meet rs p).any fun m => decide (l &&& m = m)
theorem or_pow {l e i : Nat} : (l ||| 2 ^ e).testBit i = (l.testBit i || decide (e = i)) := by
  rw [Nat.testBit_or, Nat.testBit_two_pow]
theorem mem_wid {rs : List Nat} {p r : Nat} : r ∈ wid rs p ↔ ∃ t e, t ∈ rs ∧ t &&& p = 0 ∧ e < 7 ∧ p.testBit e = true ∧ r = t ||| 2 ^ e := by
  unfold wid
  rw [List.mem_flatMap]
  constructor
  · rintro ⟨t, ht, h⟩
    split at h
    · rename_i c
      obtain ⟨o, ho, rfl⟩ := List.mem_map.mp h
      obtain ⟨e, he, rfl⟩ := List.mem_map.mp ho
      obtain ⟨h1, h2⟩ := List.mem_filter.mp he
      exact ⟨t, e, ht, c, List.mem_range.mp h1, h2, rfl⟩
    · cases h
  · rintro ⟨t, e, h1, h2, h3, h4, rfl⟩
    refine ⟨t, h1, ?_⟩
    rw [if_pos h2]
    exact List.mem_map.mpr ⟨2 ^ e, List.mem_map.mpr ⟨e, List.mem_filter.mpr ⟨List.mem_range.mpr h3, h4⟩, rfl⟩, rfl⟩
theorem bit_lt {p i : Nat} (hp : p < 128) (h : p.testBit i = true) : i < 7 := by
  refine Classical.byContradiction fun c => ?_
  have : p < 2 ^ i := Nat.lt_of_lt_of_le hp (Nat.pow_le_pow_right (n := 2) (by decide) (show 7 ≤ i by omega))
  rw [Nat.testBit_lt_two_pow this] at h
  cases h
theorem Least.next {ps rs : List Nat} {p : Nat} (h : Least ps rs) (hp : p < 128) : Least (ps ++ [p]) (nxtL rs p) := by
  have memM : ∀ m, m ∈ meet rs p ↔ MinHit ps m ∧ Mts m p := fun m => by
    unfold meet
    rw [List.mem_filter, h.is, decide_eq_true_eq, and_mts]
  have hitA : ∀ r, Hits (ps ++ [p]) r ↔ Hits ps r ∧ Mts r p := fun r =>
    ⟨fun k => ⟨fun q hq => k q (List.mem_append_left _ hq), k p (by simp)⟩, fun k q hq => (List.mem_append.mp hq).elim (k.1 q) fun e => by rw [List.mem_singleton.mp e]; exact k.2⟩
  have nm : ∀ {t : Nat}, t &&& p = 0 → ∀ i, t.testBit i = true → p.testBit i = true → False := fun {t} z i h1 h2 => and_mts.mpr ⟨i, h1, h2⟩ z
  have memW : ∀ r, (r ∈ (wid rs p).filter fun l => !(meet rs p).any fun m => decide (l &&& m = m)) ↔ r ∈ wid rs p ∧ ∀ m ∈ meet rs p, ¬ Sub m r := fun r => by
    rw [List.mem_filter]
    refine and_congr_right fun _ => ?_
    rw [Bool.not_eq_true', List.any_eq_false]
    refine forall_congr' fun m => forall_congr' fun hm => ?_
    rw [decide_eq_true_eq, and_sub]
  have isM : ∀ m ∈ meet rs p, MinHit (ps ++ [p]) m := fun m hm => by
    obtain ⟨h1, h2⟩ := (memM m).mp hm
    exact ⟨(hitA m).mpr ⟨h1.h, h2⟩, fun q hq hh => h1.m q hq ((hitA q).mp hh).1⟩
  refine ⟨?_, fun r => ?_, fun r hr => ?_⟩
  · unfold nxtL
    refine List.nodup_append.mpr ⟨h.nd.sublist List.filter_sublist, ?_, fun a ha b hb e => ?_⟩
    · refine List.Nodup.sublist List.filter_sublist ?_
      have go : ∀ {ts : List Nat}, ts.Nodup → (wid ts p).Nodup := fun {ts} nd => by
        induction ts with
        | nil => exact List.nodup_nil
        | cons t ts ih =>
          obtain ⟨n1, n2⟩ := List.nodup_cons.mp nd
          have e : wid (t :: ts) p = (if t &&& p = 0 then (ones p).map fun o => t ||| o else []) ++ wid ts p := rfl
          rw [e]
          refine List.nodup_append.mpr ⟨?_, ih n2, fun a ha b hb e => ?_⟩
          · split
            · rename_i z
              unfold ones
              rw [List.map_map]
              refine List.pairwise_map.mpr ((List.nodup_range.sublist List.filter_sublist).imp_of_mem fun {i j} hi hj ne e => ne ?_)
              have e : t ||| 2 ^ i = t ||| 2 ^ j := e
              have pi := (List.mem_filter.mp hi).2
              have : (t ||| 2 ^ j).testBit i = true := by rw [← e, or_pow]; simp
              rw [or_pow, Bool.or_eq_true, decide_eq_true_eq] at this
              rcases this with k | k
              · exact (nm z i k pi).elim
              · exact k.symm
            · exact List.nodup_nil
          · subst e
            split at ha
            · rename_i z
              obtain ⟨o, ho, e1⟩ := List.mem_map.mp ha
              obtain ⟨i, hi, rfl⟩ := List.mem_map.mp ho
              obtain ⟨t', j, h1, h2, h3, h4, e2⟩ := mem_wid.mp hb
              have pi := (List.mem_filter.mp hi).2
              refine n1 ?_
              have : t = t' := Nat.eq_of_testBit_eq fun k => by
                have b1 : a.testBit k = (t.testBit k || decide (i = k)) := by rw [← e1, or_pow]
                have b2 : a.testBit k = (t'.testBit k || decide (j = k)) := by rw [e2, or_pow]
                cases hpk : p.testBit k with
                | true =>
                  have f1 : t.testBit k = false := by cases c : t.testBit k with | false => rfl | true => exact (nm z k c hpk).elim
                  have f2 : t'.testBit k = false := by cases c : t'.testBit k with | false => rfl | true => exact (nm h2 k c hpk).elim
                  rw [f1, f2]
                | false =>
                  have g1 : decide (i = k) = false := decide_eq_false fun e => by rw [e, hpk] at pi; cases pi
                  have g2 : decide (j = k) = false := decide_eq_false fun e => by rw [e, hpk] at h4; cases h4
                  rw [g1, Bool.or_false] at b1
                  rw [g2, Bool.or_false] at b2
                  rw [← b1, ← b2]
              rw [this]; exact h1
            · cases ha
      exact go h.nd
    · subst e
      exact ((memW a).mp hb).2 a ha (.refl a)
  · unfold nxtL
    rw [List.mem_append, memW]
    constructor
    · rintro (hm | ⟨hw, no⟩)
      · exact isM r hm
      · obtain ⟨t, e, h1, h2, h3, h4, rfl⟩ := mem_wid.mp hw
        have mt := (h.is t).mp h1
        have st : Sub t (t ||| 2 ^ e) := fun i hi => by rw [or_pow, hi]; rfl
        have be : (t ||| 2 ^ e).testBit e = true := by rw [or_pow]; simp
        refine ⟨(hitA _).mpr ⟨mt.h.sub st, e, be, h4⟩, fun q hq hh => ?_⟩
        obtain ⟨hh1, i, qi, pi⟩ := (hitA q).mp hh
        have qe : q.testBit e = true := by
          have := hq i qi
          rw [or_pow, Bool.or_eq_true, decide_eq_true_eq] at this
          rcases this with k | k
          · exact (nm h2 i k pi).elim
          · rw [k]; exact qi
        obtain ⟨q0, s0, m0⟩ := min_of q (Nat.le_refl _) hh1
        by_cases c : Mts q0 p
        · exact (no q0 ((memM q0).mpr ⟨m0, c⟩) (s0.trans hq)).elim
        · have sub0 : Sub q0 t := fun i hi => by
            have := hq i (s0 i hi)
            rw [or_pow, Bool.or_eq_true, decide_eq_true_eq] at this
            rcases this with k | k
            · exact k
            · subst k; exact (c ⟨_, hi, h4⟩).elim
          have e0 : q0 = t := mt.m q0 sub0 m0.h
          refine hq.eq fun i hi => ?_
          rw [or_pow, Bool.or_eq_true, decide_eq_true_eq] at hi
          rcases hi with k | k
          · exact s0 i (e0 ▸ k)
          · exact k ▸ qe
    · intro mr
      obtain ⟨hr1, i, ri, pi⟩ := (hitA r).mp mr.h
      obtain ⟨r0, s0, m0⟩ := min_of r (Nat.le_refl _) hr1
      by_cases c : Mts r0 p
      · have : r0 = r := mr.m r0 s0 ((hitA r0).mpr ⟨m0.h, c⟩)
        exact .inl ((memM r).mpr ⟨this ▸ m0, i, ri, pi⟩)
      · have z : r0 &&& p = 0 := Classical.byContradiction fun k => c (and_mts.mp k)
        have st : Sub r0 (r0 ||| 2 ^ i) := fun k hk => by rw [or_pow, hk]; rfl
        have e1 : r0 ||| 2 ^ i = r := mr.m _ (fun k hk => by
          rw [or_pow, Bool.or_eq_true, decide_eq_true_eq] at hk
          rcases hk with k | k
          · exact s0 _ k
          · exact k ▸ ri) ((hitA _).mpr ⟨m0.h.sub st, i, by rw [or_pow]; simp, pi⟩)
        refine .inr ⟨mem_wid.mpr ⟨r0, i, (h.is r0).mpr m0, z, bit_lt hp pi, pi, e1.symm⟩, fun m hm sm => ?_⟩
        obtain ⟨mm, j, mj, pj⟩ := (memM m).mp hm
        have e2 : m = r := mr.m m sm ((hitA m).mpr ⟨mm.h, j, mj, pj⟩)
        have e3 : r0 = m := mm.m r0 (e2 ▸ s0) m0.h
        exact c ⟨j, e3 ▸ mj, pj⟩
  · unfold nxtL at hr
    rcases List.mem_append.mp hr with k | k
    · exact h.lt r (List.mem_filter.mp k).1
    · obtain ⟨t, e, h1, _, h3, _, rfl⟩ := mem_wid.mp ((memW r).mp k).1
      exact Nat.or_lt_two_pow (n := 7) (h.lt t h1) (Nat.pow_lt_pow_right (by decide) h3)
theorem intL_app (a b : List Nat) : intL (a ++ b) = intL a ++ intL b := by unfold intL; rw [List.map_append]
theorem ones_at : ∀ p : Fin 128, ((List.range (PySem.Builtin.Int.intBits (p.val : Int))).filter fun i => p.val.testBit i) = (List.range 7).filter fun i => p.val.testBit i := by decide +kernel
def F_ones : FR := fun ds Φ => ∃ p : Nat, ds = [.int p] ∧ p < 128 ∧ Φ (.own (.lst (intL (ones p))))
theorem ok_ones (T : Txt K mg a) : FnOk P w K mg base CX0 1 a.f_ones_of a.fd_ones_of ["bits"] (spR (ZZ K a) F_ones) := by
  refine T.F_ones_of.ok sc_ones_of (fun vs H Q E h => ?_) (fun cdv A outer s H vs Q E hr h => ?_)
  · obtain ⟨M, ds, Φ, _, al, ⟨p, rfl, _⟩, _⟩ := h
    exact al.len
  · obtain ⟨M, ds, Φ, ex, al, ⟨p, rfl, p128, fin⟩, q⟩ := h
    refine ⟨_, (pss_one (ps_ret (pe_lc (own := [("at", 1)]) (g := (gName 1))  rfl sc_ones_of.nd (pi_range1 (by rfl) T.n_range (pa_cons (pe_bits (pv 0)) pa_nil)) (blkOk_by (N := N_ones_of) (sc := defScope s_ones_of) (by decide +kernel)) (fun _ _ _ _ _ => (pg_name (i := 1) sc_ones_of.nd rfl (Or.inl rfl))) (fun _ _ _ _ _ => pts_one (pt_truthK (K := K) rfl (pe_op op_and (pe_op op_shr (pv 0) (pv 1)) pe_int) (by intro _; rfl))) (fun _ _ _ _ _ => (pe_op op_oneShl pe_int (pv 1)))))), entR (n := 1) ex al rfl q ?_⟩
    walk_at "ent"
    have lb : PySem.Builtin.Int.intBits (p : Int) ≤ 64 := (show ∀ p : Fin 128, PySem.Builtin.Int.intBits (p.val : Int) ≤ 64 by decide +kernel) ⟨p, p128⟩
    refine xs_retO <| xo_lc <| xi_rng1 <| xe_bits <| xe_var rfl ⟨_, rfl, _, rfl, by omega, by omega, by simp, by rw [rng_len]; omega, fun i acc δ => δ = [.d (.int p), .no] ∧ acc = intL (((List.range i).filter fun i => p.testBit i).map fun i => 2 ^ i), ⟨rfl, rfl⟩, ?_, ?_⟩
    · rintro i d acc δ1 bs hb hi ⟨rfl, rfl⟩
      obtain ⟨hi', rfl⟩ := rng_at hi
      rw [Int.toNat_natCast] at hi'
      refine xg_name (by decide) (hb 1 (by decide)) ?_
      try dsimp only [List.set]
      rw [show (0 : Int) + (i : Nat) = (i : Int) by omega]
      refine xt_truth <| xe_I0 <| xe_I <| xe_var rfl <| xe_var rfl ⟨_, _, rfl, rfl, Int.natCast_nonneg _, xe_int ⟨_, _, rfl, rfl, nofun, _, rfl, ?_⟩⟩
      have e : (PySem.Builtin.bitAnd ((p : Int) / 2 ^ ((i : Nat) : Int).toNat) 1 != 0) = p.testBit i := by
        rw [Int.toNat_natCast, show (p : Int) / 2 ^ i = ((p / 2 ^ i : Nat) : Int) from by simp, show (1 : Int) = ((1 : Nat) : Int) from rfl, band]
        rw [Nat.testBit, Nat.shiftRight_eq_div_pow, Nat.and_comm]
        generalize p / 2 ^ i &&& 1 = q
        rw [Bool.eq_iff_iff]
        simp only [bne_iff_ne, ne_eq]
        exact not_congr (by omega)
      rw [e]
      have step : intL (((List.range (i + 1)).filter fun i => p.testBit i).map fun i => 2 ^ i) = if p.testBit i = true then intL (((List.range i).filter fun i => p.testBit i).map fun i => 2 ^ i) ++ [.int ((2 ^ i : Nat) : Int)] else intL (((List.range i).filter fun i => p.testBit i).map fun i => 2 ^ i) := by
        rw [List.range_succ, List.filter_append]
        unfold intL
        cases c : p.testBit i <;> simp [c]
      cases c : p.testBit i with
      | true =>
        rw [if_pos rfl]
        rw [c, if_pos rfl] at step
        rw [step]
        have l7 := bit_lt p128 c
        refine xe_oneShl <| xe_int ⟨rfl, xe_var rfl ⟨i, rfl, by omega, rfl, ?_⟩⟩
        simp
      | false =>
        rw [if_neg (by simp)]
        rw [c, if_neg (by simp)] at step
        exact ⟨rfl, step.symm⟩
    · rintro acc δ1 ⟨rfl, rfl⟩
      rw [rng_len, Int.toNat_natCast, ones_at ⟨p, p128⟩]
      exact fin
def F_has_one : FR := fun ds Φ => ∃ (l : Nat) (ms : List Nat), ds = [.int l, .lst (intL ms)] ∧ ms.length ≤ 1000 ∧ Φ (.d (.bl (ms.any fun m => decide (l &&& m = m))))
theorem ok_has_one (T : Txt K mg a) : FnOk P w K mg base CX0 1 a.f_has_one_of a.fd_has_one_of ["bits", "lots"] (spR (ZZ K a) F_has_one) := by
  refine T.F_has_one_of.ok sc_has_one_of (fun vs H Q E h => ?_) (fun cdv A outer s H vs Q E hr h => ?_)
  · obtain ⟨M, ds, Φ, _, al, ⟨l, ms, rfl, _⟩, _⟩ := h
    exact al.len
  · obtain ⟨M, ds, Φ, ex, al, ⟨l, ms, rfl, hl, fin⟩, q⟩ := h
    refine ⟨_, (pss_one (ps_ret (pe_callB (cr_any rfl) (by rfl) T.n_any (by decide +kernel) (pa_cons (pe_lc (own := [("lot", 2)]) (g := (gName 2)) (tt := tYes) rfl sc_has_one_of.nd (pi_list (pv 1)) (blkOk_by (N := N_has_one_of) (sc := defScope s_has_one_of) (by decide +kernel)) (fun _ _ _ _ _ => (pg_name (i := 2) sc_has_one_of.nd rfl (Or.inl rfl))) (fun _ _ _ _ _ => pts_nil) (fun _ _ _ _ _ => (pe_cmpR op_eq (pe_op op_and (pv 0) (pv 2)) (pv 2) (nomark _)))) pa_nil)))), entR (n := 1) ex al rfl q ?_⟩
    walk_at "ent"
    refine xs_ret <| xe_any <| xe_ofO <| xo_fg (v := 2) (g := fun m : Nat => .int (m : Int)) (f := fun m : Nat => .bl (decide (l &&& m = m))) (p := fun _ => true) <| xi_list <| xe_var rfl ⟨_, .inl rfl, ms, rfl, rfl, by omega, fun m hm => xt_yes ⟨rfl, rfl, fun _ => ?_⟩, _, rfl, ms.map fun m => decide (l &&& m = m), ?_, ?_⟩
    · refine xe_eq <| xe_I0 <| xe_var rfl <| xe_var rfl ⟨_, _, rfl, rfl, xe_var rfl ⟨_, _, rfl, rfl, rfl, ?_, rfl⟩⟩
      rw [band]
      congr 1
      rw [decide_eq_decide]
      exact ⟨fun e => by have := V.int.inj e; omega, fun e => by rw [e]⟩
    · rw [List.filter_eq_self.mpr fun _ _ => rfl, List.map_map]; rfl
    · rw [List.any_map]
      exact fin
def F_least : FR := fun ds Φ => ∃ ps : List Nat, ds = [.lst (intL ps)] ∧ (∀ p ∈ ps, p < 128) ∧ ps.length ≤ 1000 ∧ ∀ rs, Least ps rs → Φ (.d (.lst (intL rs)))
theorem ok_least (T : Txt K mg a) (G_ones_of : FnOk P w K mg base CX0 1 a.f_ones_of a.fd_ones_of ["bits"] (spR (ZZ K a) F_ones)) (G_has_one_of : FnOk P w K mg base CX0 1 a.f_has_one_of a.fd_has_one_of ["bits", "lots"] (spR (ZZ K a) F_has_one)) : FnOk P w K mg base CX0 2 a.f_least_meeting a.fd_least_meeting ["parts"] (spR (ZZ K a) F_least) := by
  refine T.F_least_meeting.ok sc_least_meeting (fun vs H Q E h => ?_) (fun cdv A outer s H vs Q E hr h => ?_)
  · obtain ⟨M, ds, Φ, _, al, ⟨ps, rfl, _⟩, _⟩ := h
    exact al.len
  · obtain ⟨M, ds, Φ, ex, al, ⟨ps, rfl, p128, pl, fin⟩, q⟩ := h
    refine ⟨_, (pss_cons (ps_set (i := 1) sc_least_meeting.nd rfl (Or.inl rfl) (pe_lst (pa_cons pe_int pa_nil)))
      (pss_cons (ps_for PassesOwn.never rfl (pi_list (pv 0)) (pg_name (i := 2) sc_least_meeting.nd rfl (Or.inr rfl))
      (pss_cons (ps_set (i := 3) sc_least_meeting.nd rfl (Or.inr rfl) (pe_lc (own := [("lot", 5)]) (g := (gName 5))  rfl sc_least_meeting.nd (pi_list (pv 1)) (blkOk_by (N := N_least_meeting) (sc := defScope s_least_meeting) (by decide +kernel)) (fun _ _ _ _ _ => (pg_name (i := 5) sc_least_meeting.nd rfl (Or.inl rfl))) (fun _ _ _ _ _ => pts_one (pt_truthK (K := K) rfl (pe_op op_and (pv 5) (pv 2)) (by intro _; rfl))) (fun _ _ _ _ _ => (pv 5))))
      (pss_cons (ps_setLc2 (own := [("lot", 5), ("one", 6)]) (vs1 := [6]) (g := (gName 5)) (g1 := (gName 6))  (tt1 := tYes) (i := 4) rfl sc_least_meeting.nd rfl rfl (sw_true rfl rfl rfl (by decide +kernel)) (pi_list (pv 1)) (blkOk_by (N := N_least_meeting) (sc := defScope s_least_meeting) (by decide +kernel)) (by decide) (fun _ _ _ _ _ => (pg_name (i := 5) sc_least_meeting.nd rfl (Or.inl rfl))) (fun _ _ _ _ _ => pts_one (pt_not (pt_truthK (K := K) rfl (pe_op op_and (pv 5) (pv 2)) (by intro _; rfl)))) (fun _ _ _ _ _ => (pi_listK (K := K) rfl (pe_call G_ones_of (hr.mono (by decide)) (by rfl) T.m_ones_of T.F_ones_of.kp T.b_ones_of .nil pass0 (pa_cons (pv 2) pa_nil)))) (fun _ _ _ _ _ => (pg_name (i := 6) sc_least_meeting.nd rfl (Or.inl rfl))) (fun _ _ _ _ _ => pts_nil) (fun _ _ _ _ _ => (pe_op op_or (pv 5) (pv 6))))
      (pss_one (ps_set (i := 1) sc_least_meeting.nd rfl (Or.inl rfl) (pe_op op_cat (pv 3) (pe_lc (own := [("lot", 5)]) (g := (gName 5))  rfl sc_least_meeting.nd (pi_list (pv 4)) (blkOk_by (N := N_least_meeting) (sc := defScope s_least_meeting) (by decide +kernel)) (fun _ _ _ _ _ => (pg_name (i := 5) sc_least_meeting.nd rfl (Or.inl rfl))) (fun _ _ _ _ _ => pts_one (pt_not (pt_val (pe_call G_has_one_of (hr.mono (by decide)) (by rfl) T.m_has_one_of T.F_has_one_of.kp T.b_has_one_of .nil pass0 (pa_cons (pv 5) (pa_cons (pv 3) pa_nil)))))) (fun _ _ _ _ _ => (pv 5)))))))))
      (pss_one (ps_ret (pv 1))))), entR (n := 6) ex al rfl q ?_⟩
    walk_at "ent"
    refine xs_seq <| xs_set (by decide) <| xe_ofO <| xo_lst <| xa_cons <| xe_int <| xa_nil ⟨by simp, _, rfl, ?_⟩
    try dsimp only [List.set]
    refine xs_seq <| xs_for (vs := [2]) <| xi_list <| xe_var rfl ⟨_, .inl rfl, ?_⟩
    refine ⟨fun i δ => ∃ (rs : List Nat) (s2 s3 s4 : S), δ = [.d (.lst (intL ps)), .d (.lst (intL rs)), s2, s3, s4, .no, .no] ∧ Least (ps.take i) rs, ⟨[0], _, _, _, rfl, Least.nil⟩, ?_, ?_⟩
    · rintro i d δ1 hi ⟨rs, s2, s3, s4, rfl, le⟩
      obtain ⟨p, hp, rfl⟩ : ∃ p : Nat, ps[i]? = some p ∧ D.int p = d := by simpa [intL] using hi
      have pm := p128 p (List.mem_of_getElem? hp)
      have l128 := le.len
      refine xg_name (by decide) (by decide) ?_
      try dsimp only [List.set]
      refine xs_seq <| xs_set (by decide) <| xe_ofO <| xo_fg (v := 5) (g := fun l : Nat => .int (l : Int)) (f := fun l : Nat => .int (l : Int)) (p := fun l => decide (l &&& p ≠ 0)) <| xi_list <| xe_var rfl ⟨_, .inl rfl, rs, rfl, rfl, by omega, fun l hl => ?_, _, rfl, ?_⟩
      · try dsimp only [List.set]
        refine xt_truth <| xe_I0 <| xe_var rfl <| xe_var rfl ⟨_, _, rfl, rfl, nofun, _, rfl, ?_, rfl, fun _ => xe_var rfl ⟨rfl, rfl⟩⟩
        rw [band, Bool.eq_iff_iff]
        simp
      try dsimp only [List.set]
      have lm : (meet rs p).length ≤ 128 := Nat.le_trans (List.length_filter_le _ _) l128
      have lo : (ones p).length ≤ 7 := by
        unfold ones
        rw [List.length_map]
        exact Nat.le_trans (List.length_filter_le _ _) (by simp)
      refine xs_seq <| xs_set (by decide) <| xe_ofO <| xo_lc2 <| xi_list <| xe_var rfl ⟨_, .inl rfl, by simp, by simp, by unfold intL; rw [List.length_map]; omega, ?_⟩
      refine ⟨fun j acc δ => δ = [.d (.lst (intL ps)), .d (.lst (intL rs)), .d (.int p), .d (.lst (intL (meet rs p))), s4, .no, .no] ∧ acc = intL (wid (rs.take j) p), ⟨rfl, rfl⟩, ?_, ?_⟩
      · rintro j d acc δ1 bs hb hj ⟨rfl, rfl⟩
        obtain ⟨l, hl, rfl⟩ : ∃ l : Nat, rs[j]? = some l ∧ D.int l = d := by simpa [intL] using hj
        have tk : wid (rs.take (j + 1)) p = wid (rs.take j) p ++ (if l &&& p = 0 then (ones p).map fun o => l ||| o else []) := by
          rw [GS.take_get hl]; unfold wid; simp
        refine xg_name (by decide) (hb 5 (by decide)) ?_
        try dsimp only [List.set]
        refine xt_not <| xt_truth <| xe_I0 <| xe_var rfl <| xe_var rfl ⟨_, _, rfl, rfl, nofun, _, rfl, ?_⟩
        rw [band]
        by_cases z : l &&& p = 0
        · rw [if_pos z] at tk
          rw [z]
          refine if_nf <| xi_list <| xe_ofO <| xr_call (fun _ => .nil) <| xa_cons <| xe_var rfl <| xa_nil ⟨p, rfl, pm, on_o ⟨_, rfl, _, .inl rfl, by unfold intL; rw [List.length_map]; omega, by simp, ?_⟩⟩
          refine ⟨fun k acc δ => δ = [.d (.lst (intL ps)), .d (.lst (intL rs)), .d (.int p), .d (.lst (intL (meet rs p))), s4, .d (.int l), .no] ∧ acc = intL (wid (rs.take j) p ++ ((ones p).take k).map fun o => l ||| o), ⟨rfl, by simp⟩, ?_, ?_⟩
          · rintro k e acc δ5 bs5 hb5 hk ⟨rfl, rfl⟩
            obtain ⟨o, ho, rfl⟩ : ∃ o : Nat, (ones p)[k]? = some o ∧ D.int o = e := by simpa [intL] using hk
            refine xg_name (by decide) (hb5 6 (by decide)) ?_
            try dsimp only [List.set]
            refine xt_yes <| if_tt <| xe_I0 <| xe_var rfl <| xe_var rfl ⟨_, _, rfl, rfl, rfl, ?_⟩
            rw [bor, GS.take_get ho, List.map_append, ← List.append_assoc]
            simp only [intL_app]
            rfl
          · rintro acc δ5 ⟨rfl, rfl⟩
            have : (intL (ones p)).length = (ones p).length := by unfold intL; rw [List.length_map]
            rw [this, List.take_length, ← tk]
            exact ⟨rfl, rfl⟩
        · rw [if_neg z, List.append_nil] at tk
          rw [show (((l &&& p : Nat) : Int) != 0) = true by simpa using z]
          exact if_nt ⟨rfl, by rw [tk]⟩
      rintro acc δ1 ⟨rfl, rfl⟩
      have lrs : (intL rs).length = rs.length := by unfold intL; rw [List.length_map]
      rw [lrs, List.take_length]
      refine ⟨_, rfl, ?_⟩
      try dsimp only [List.set]
      have lw : (wid rs p).length ≤ 1000 := by
        have go : ∀ ts : List Nat, (wid ts p).length ≤ 7 * ts.length := fun ts => by
          induction ts with
          | nil => simp [wid]
          | cons t ts ih =>
            have e : wid (t :: ts) p = (if t &&& p = 0 then (ones p).map fun o => t ||| o else []) ++ wid ts p := rfl
            rw [e, List.length_append, List.length_cons]
            split
            · rw [List.length_map]; omega
            · simp; omega
        have := go rs
        omega
      refine xs_set (by decide) <| xe_ofO <| xo_cat <| xe_var rfl <| xe_ofO <| xo_fg (v := 5) (g := fun l : Nat => .int (l : Int)) (f := fun l : Nat => .int (l : Int)) (p := fun l => !(meet rs p).any fun m => decide (l &&& m = m)) <| xi_list <| xe_var rfl ⟨_, .inl rfl, wid rs p, rfl, rfl, by omega, fun l hl => ?_, _, rfl, _, _, rfl, rfl, ?_, _, rfl, nxtL rs p, .d (.int p), .d (.lst (intL (meet rs p))), .d (.lst (intL (wid rs p))), ?_, ?_⟩
      · try dsimp only [List.set]
        refine xt_not <| xt_B <| xr_call (fun _ => .nil) <| xa_cons <| xe_var rfl <| xa_cons <| xe_var rfl <| xa_nil ⟨l, meet rs p, rfl, by omega, on_d ⟨_, rfl, ?_⟩⟩
        exact ⟨rfl, rfl, fun _ => xe_var rfl ⟨rfl, rfl⟩⟩
      · have := List.length_filter_le (fun l => !(meet rs p).any fun m => decide (l &&& m = m)) (wid rs p)
        unfold intL
        rw [List.length_map, List.length_map]
        omega
      · show _ = [S.d (D.lst (intL ps)), S.d (D.lst (intL (nxtL rs p))), S.d (D.int p), S.d (D.lst (intL (meet rs p))), S.d (D.lst (intL (wid rs p))), S.no, S.no]
        unfold nxtL
        rw [intL_app]
        rfl
      · rw [GS.take_get hp]
        exact le.next pm
    · rintro δ1 ⟨rs, s2, s3, s4, rfl, le⟩
      have : (intL ps).length = ps.length := by unfold intL; rw [List.length_map]
      rw [this, List.take_length] at le
      exact xs_ret <| xe_var rfl <| fin rs le
def F_is_int : FR := fun ds Φ => ∃ i : Int, ds = [.int i] ∧ Φ (.d (.bl true))
/-! ### points -/
def F_tuple_of : FR := fun ds Φ => ∃ (xs : List D) (n : Nat), ds = [.tup xs, .int n] ∧ Φ (.d (.bl (decide (xs.length = n))))
theorem ok_tuple_of (T : Txt K mg a) : FnOk P w K mg base CX0 1 a.f_is_tuple_of a.fd_is_tuple_of ["value", "many"] (spR (ZZ K a) F_tuple_of) := by
  refine T.F_is_tuple_of.ok sc_is_tuple_of (fun vs H Q E h => ?_) (fun cdv A outer s H vs Q E hr h => ?_)
  · obtain ⟨M, ds, Φ, _, al, ⟨xs, n, rfl, _⟩, _⟩ := h
    exact al.len
  · obtain ⟨M, ds, Φ, ex, al, ⟨xs, n, rfl, fin⟩, q⟩ := h
    refine ⟨_, (pss_one (ps_ret (pe_and (pe_callB call_isi (by rfl) T.n_isinstance (by decide +kernel) (pa_cons (pv 0) (pa_cons (pe_bltn (v := .ty "tuple") (u := .type "tuple") (by rfl) T.n_tuple (by decide +kernel) rfl) pa_nil))) (pe_one (pe_cmpR op_eq (pe_callB (show CallR _ (.builtin "len") (G.rLen K) from call_len) (by rfl) T.n_len PySem.boot_len (pa_cons (pv 0) pa_nil)) (pv 1) (nomark _)))))), entR (n := 0) ex al rfl q ?_⟩
    walk_at "ent"
    refine xs_ret <| xe_andV <| xe_isi <| xe_var rfl ⟨_, _, rfl, rfl, _, rfl, if_tt ?_⟩
    refine xe_eq <| xe_len <| xe_var rfl ⟨xs.length, rfl, xe_var rfl ⟨_, _, rfl, rfl, rfl, ?_⟩⟩
    rw [show decide (V.int (xs.length : Int) = V.int (n : Int)) = decide (xs.length = n) from by
      rw [decide_eq_decide]; exact ⟨fun h => by have := V.int.inj h; omega, fun h => by rw [h]⟩]
    exact fin
/-! ### numbers as lots -/
def unb (ns : List Str) (b : Nat) : List Str := ns.filter fun n => b.testBit (ns.idxOf n)
theorem min_private {ps : List Nat} {r : Nat} (m : MinHit ps r) {i : Nat} (hi : r.testBit i = true) : ∃ p ∈ ps, p.testBit i = true ∧ ∀ j, r.testBit j = true → p.testBit j = true → j = i := by
  refine Classical.byContradiction fun c => ?_
  have bit : ∀ j, (r ^^^ 2 ^ i).testBit j = (r.testBit j != decide (i = j)) := fun j => by rw [Nat.testBit_xor, Nat.testBit_two_pow]
  have sub : Sub (r ^^^ 2 ^ i) r := fun j hj => by
    rw [bit] at hj
    by_cases e : i = j
    · subst e; exact hi
    · simpa [e] using hj
  have := m.m _ sub fun p hp => by
    obtain ⟨j, h1, h2⟩ := m.h p hp
    by_cases e : i = j
    · subst e
      refine Classical.byContradiction fun no => c ⟨p, hp, h2, fun k hk pk => Classical.byContradiction fun ne => no ⟨k, ?_, pk⟩⟩
      have ne : ¬ i = k := fun e => ne e.symm
      rw [bit, hk]; simp [ne]
    · exact ⟨j, by rw [bit, h1]; simp [e], h2⟩
  have b := bit i
  rw [this, hi] at b
  simp at b
theorem bo_bit {ns S : List Str} (i : Nat) : (bo ns S).testBit i = match ns[i]? with | some n => decide (n ∈ S) | none => false := by
  unfold bo
  rw [nbv_bit]
  unfold bitAt
  cases ns[i]? <;> rfl
theorem bo_unb {ns : List Str} {r : Nat} (nd : ns.Nodup) (h : r < 2 ^ ns.length) : bo ns (unb ns r) = r := by
  refine Nat.eq_of_testBit_eq fun i => ?_
  rw [bo_bit]
  cases e : ns[i]? with
  | none =>
    have := List.getElem?_eq_none_iff.mp e
    exact (Nat.testBit_lt_two_pow (Nat.lt_of_lt_of_le h (Nat.pow_le_pow_right (by decide) this))).symm
  | some n =>
    have hi := (List.getElem?_eq_some_iff.mp e).1
    have en : ns[i] = n := (List.getElem?_eq_some_iff.mp e).2
    have ix : ns.idxOf n = i := by
      have nm : n ∈ ns := List.mem_of_getElem? e
      have lt := List.idxOf_lt_length_of_mem nm
      have := (List.getElem_inj nd (h₀ := lt) (h₁ := hi)).mp (by rw [List.getElem_idxOf lt, en])
      exact this
    show decide (n ∈ unb ns r) = r.testBit i
    unfold unb
    rw [Bool.eq_iff_iff, decide_eq_true_eq, List.mem_filter, ix]
    exact ⟨fun h => h.2, fun h => ⟨List.mem_of_getElem? e, h⟩⟩
theorem bo_mem {ns S : List Str} {w : Str} (hw : w ∈ ns) : (bo ns S).testBit (ns.idxOf w) = decide (w ∈ S) := by
  rw [bo_bit]
  have lt := List.idxOf_lt_length_of_mem hw
  rw [List.getElem?_eq_getElem lt, List.getElem_idxOf lt]
/-! ### few can meet all parts -/
def chains6 : List (List Nat) := [[0, 32, 48, 56, 60, 62, 63], [1, 33, 49, 57, 61], [2, 34, 50, 58, 59], [3, 35, 51], [4, 36, 52, 54, 55], [5, 37, 53], [6, 38, 39], [7], [8, 40, 44, 46, 47], [9, 41, 45], [10, 42, 43], [11], [12, 14, 15], [13], [16, 24, 28, 30, 31], [17, 25, 29], [18, 26, 27], [19], [20, 22, 23], [21]]
def widen6 (i r : Nat) : Nat := r % 2 ^ i + r / 2 ^ i * 2 ^ (i + 1)
def chainsAt (i : Nat) : List (List Nat) := chains6.map fun c => c.map (widen6 i)
theorem chains_all : ∀ i : Fin 7, ∀ r : Fin 128, r.val.testBit i.val = false → (chainsAt i.val).any (fun c => c.contains r.val) = true := by decide +kernel
theorem chains_cmp : ∀ i : Fin 7, (chainsAt i.val).all (fun c => c.all fun a => c.all fun b => (a &&& b == a) || (a &&& b == b)) = true := by decide +kernel
theorem chains_len (i : Nat) : (chainsAt i).length = 20 := by unfold chainsAt; rw [List.length_map]; rfl
theorem anti20 {i : Nat} (hi : i < 7) {rs : List Nat} (nd : rs.Nodup) (lt : ∀ r ∈ rs, r < 128 ∧ r.testBit i = false) (anti : ∀ r ∈ rs, ∀ s ∈ rs, Sub r s → r = s) : rs.length ≤ 20 := by
  have at' : ∀ r ∈ rs, ∃ k, k < 20 ∧ ∃ c, (chainsAt i)[k]? = some c ∧ r ∈ c := fun r hr => by
    obtain ⟨l, b⟩ := lt r hr
    have := chains_all ⟨i, hi⟩ ⟨r, l⟩ b
    obtain ⟨c, hc, hm⟩ := List.any_eq_true.mp this
    obtain ⟨k, hk⟩ := List.mem_iff_getElem?.mp hc
    have kl := (List.getElem?_eq_some_iff.mp hk).1
    rw [chains_len] at kl
    exact ⟨k, kl, c, hk, by simpa using hm⟩
  let idx : Nat → Nat := fun r => if h : ∃ k, k < 20 ∧ ∃ c, (chainsAt i)[k]? = some c ∧ r ∈ c then Classical.choose h else 0
  have spec : ∀ r ∈ rs, idx r < 20 ∧ ∃ c, (chainsAt i)[idx r]? = some c ∧ r ∈ c := fun r hr => by
    show (if h : ∃ k, k < 20 ∧ ∃ c, (chainsAt i)[k]? = some c ∧ r ∈ c then Classical.choose h else 0) < 20 ∧ ∃ c, (chainsAt i)[(if h : ∃ k, k < 20 ∧ ∃ c, (chainsAt i)[k]? = some c ∧ r ∈ c then Classical.choose h else 0)]? = some c ∧ r ∈ c
    rw [dif_pos (at' r hr)]
    exact Classical.choose_spec (at' r hr)
  have nd2 : (rs.map idx).Nodup := by
    rw [List.nodup_iff_pairwise_ne, List.pairwise_map]
    refine (List.nodup_iff_pairwise_ne.mp nd).imp_of_mem fun {r s} hr hs ne e => ne ?_
    obtain ⟨_, c, hc, rc⟩ := spec r hr
    obtain ⟨_, c', hc', sc⟩ := spec s hs
    rw [e, hc'] at hc
    cases hc
    have cm := List.all_eq_true.mp (chains_cmp ⟨i, hi⟩) c (List.mem_of_getElem? hc')
    have := List.all_eq_true.mp (List.all_eq_true.mp cm r rc) s sc
    rw [Bool.or_eq_true, beq_iff_eq, beq_iff_eq] at this
    rcases this with h | h
    · exact anti r hr s hs (and_sub.mp (by rw [Nat.and_comm]; exact h))
    · exact (anti s hs r hr (and_sub.mp h)).symm
  have := nd2.length_le_of_subset (l₂ := List.range 20) fun k hk => by
    obtain ⟨r, hr, rfl⟩ := List.mem_map.mp hk
    exact List.mem_range.mpr (spec r hr).1
  simpa using this
/-! ### rooms kept by parts -/
abbrev PN := Str × List (List Str)
def kpE (p : PN) : Key × D := (.inr p.1, .lst (p.2.map lotD))
structure PssOk (pss : List PN) : Prop where
  l : pss.length ≤ 7
  nd : (pss.map (·.1)).Nodup
  nm : ∀ p ∈ pss, NmOk p.1
  pl : ∀ p ∈ pss, p.2.length ≤ 400
  pt : ∀ p ∈ pss, ∀ q ∈ p.2, q ≠ [] ∧ q.Nodup ∧ p.1 ∉ q ∧ ∀ w ∈ q, w ∈ pss.map (·.1)
def wy (ns : List Str) (t : Nat) : List Str := ns.filter fun n => decide (n ∈ unb ns t)
theorem mem_wy {ns : List Str} {t : Nat} {x : Str} : x ∈ wy ns t ↔ x ∈ ns ∧ t.testBit (ns.idxOf x) = true := by
  unfold wy unb
  rw [List.mem_filter, decide_eq_true_eq, List.mem_filter]
  exact ⟨fun h => h.2, fun h => ⟨h.1, h⟩⟩
theorem bo_lt7 {ns S : List Str} (h : ns.length ≤ 7) : bo ns S < 128 := Nat.lt_of_lt_of_le bo_lt (Nat.pow_le_pow_right (by decide) h)
theorem min_lt {ns : List Str} {qs : List (List Str)} {t : Nat} (m : MinHit (qs.map (bo ns)) t) : t < 2 ^ ns.length := by
  refine Nat.lt_pow_two_of_testBit _ fun i hi => ?_
  cases e : t.testBit i with
  | false => rfl
  | true =>
    obtain ⟨p, hp, pi, _⟩ := min_private m e
    obtain ⟨q, _, rfl⟩ := List.mem_map.mp hp
    rw [bo_bit, List.getElem?_eq_none_iff.mpr hi] at pi
    cases pi
theorem min_off {ns : List Str} {qs : List (List Str)} {t : Nat} {x : Str} (hx : x ∈ ns) (out : ∀ q ∈ qs, x ∉ q) (m : MinHit (qs.map (bo ns)) t) : t.testBit (ns.idxOf x) = false := by
  cases e : t.testBit (ns.idxOf x) with
  | false => rfl
  | true =>
    obtain ⟨p, hp, pi, _⟩ := min_private m e
    obtain ⟨q, hq, rfl⟩ := List.mem_map.mp hp
    rw [bo_mem hx] at pi
    exact absurd (of_decide_eq_true pi) (out q hq)
theorem idx_at {ns : List Str} (nd : ns.Nodup) {i : Nat} {n : Str} (h : ns[i]? = some n) : ns.idxOf n = i := by
  have lt := List.idxOf_lt_length_of_mem (List.mem_of_getElem? h)
  have hi := (List.getElem?_eq_some_iff.mp h).1
  exact (List.getElem?_inj lt nd).mp (by rw [h, List.getElem?_eq_getElem lt, List.getElem_idxOf lt])
theorem hit_wy {ns : List Str} (nd : ns.Nodup) {qs : List (List Str)} (sub : ∀ q ∈ qs, ∀ w ∈ q, w ∈ ns) {gs : List Str} : (∃ t, MinHit (qs.map (bo ns)) t ∧ ∀ w ∈ wy ns t, w ∈ gs) ↔ ∀ q ∈ qs, ∃ w ∈ q, w ∈ gs := by
  constructor
  · rintro ⟨t, m, h⟩ q hq
    obtain ⟨i, h1, h2⟩ := m.h _ (List.mem_map_of_mem (f := bo ns) hq)
    rw [bo_bit] at h2
    cases e : ns[i]? with
    | none => rw [e] at h2; cases h2
    | some n =>
      rw [e] at h2
      have wq : n ∈ q := of_decide_eq_true h2
      have nm : n ∈ ns := List.mem_of_getElem? e
      exact ⟨n, wq, h n (mem_wy.mpr ⟨nm, by rw [idx_at nd e]; exact h1⟩)⟩
  · intro h
    obtain ⟨t, s, m⟩ := min_of (ps := qs.map (bo ns)) (bo ns gs) (Nat.le_refl _) fun p hp => by
      obtain ⟨q, hq, rfl⟩ := List.mem_map.mp hp
      obtain ⟨w, h1, h2⟩ := h q hq
      have wn := sub q hq w h1
      exact ⟨ns.idxOf w, by rw [bo_mem wn]; exact decide_eq_true h2, by rw [bo_mem wn]; exact decide_eq_true h1⟩
    refine ⟨t, m, fun w hw => ?_⟩
    obtain ⟨h1, h2⟩ := mem_wy.mp hw
    have := s _ h2
    rw [bo_mem h1] at this
    exact of_decide_eq_true this
/-! ### the room that parts keep -/
structure KeptR (pss : List PN) (os : List Rl) (ns : List Str) : Prop where
  few : Few os ns
  rok : RoomOk os ns
  nm : ∀ x ∈ ns, NmOk x
  ns : ∀ x, x ∈ ns ↔ x ∈ pss.map (·.1)
  may : ∀ p ∈ pss, ∀ gs, p.1 ∈ mayS os gs ↔ p.1 ∉ gs ∧ ∀ q ∈ p.2, ∃ w ∈ q, w ∈ gs
structure KeptI (pss : List PN) (ns : List Str) (k : Nat) (rs : List Rl) : Prop where
  l : rs.length ≤ 20 * k
  is : ∀ r ∈ rs, r.1 ∈ ns.take k ∧ ∃ p ∈ pss, p.1 = r.1 ∧ ∃ t, MinHit (p.2.map (bo ns)) t ∧ r.2 = wy ns t
  all : ∀ p ∈ pss, p.1 ∈ ns.take k → ∀ t, MinHit (p.2.map (bo ns)) t → (p.1, wy ns t) ∈ rs
theorem KeptI.done {pss : List PN} {ns ns' : List Str} {rs : List Rl} (ok : PssOk pss) (hl : GS.IsLot ns (pss.map (·.1))) (h : KeptI pss ns ns.length rs) (hn : GS.IsLot ns' (wantAll rs)) : ns' = ns ∧ KeptR pss rs ns := by
  have nd := GS.Asc.nodup hl.asc
  have l7 : ns.length ≤ 7 := by
    have := nodup_len nd fun x hx => (hl.mem x).mp hx
    rw [List.length_map] at this
    exact Nat.le_trans this ok.l
  have sub : ∀ p ∈ pss, ∀ q ∈ p.2, ∀ w ∈ q, w ∈ ns := fun p hp q hq w hw => (hl.mem w).mpr ((ok.pt p hp q hq).2.2.2 w hw)
  have tk : ns.take ns.length = ns := List.take_length
  have wsub : ∀ {t w}, w ∈ wy ns t → w ∈ ns := fun h => (mem_wy.mp h).1
  have wasc : ∀ t, GS.Asc (wy ns t) := fun t => hl.asc.sublist List.filter_sublist
  have wl : ∀ t, (wy ns t).length ≤ 7 := fun t => Nat.le_trans (List.length_filter_le _ _) l7
  have l140 : rs.length ≤ 140 := by have := h.l; omega
  have e : ns' = ns := by
    refine GS.Asc.uniq hn.asc hl.asc fun x => ?_
    rw [hn.mem, mem_wantAll]
    constructor
    · rintro ⟨r, hr, c⟩
      obtain ⟨h1, p, hp, h2, t, h3, h4⟩ := h.is r hr
      rw [tk] at h1
      rcases c with rfl | c
      · exact h1
      · rw [h4] at c; exact wsub c
    · intro hx
      obtain ⟨p, hp, rfl⟩ := List.mem_map.mp ((hl.mem x).mp hx)
      obtain ⟨t, m, _⟩ := (hit_wy nd (sub p hp) (gs := ns)).mpr fun q hq => by
        obtain ⟨h1, _, _, h2⟩ := ok.pt p hp q hq
        obtain ⟨w, hw⟩ := List.exists_mem_of_ne_nil _ h1
        exact ⟨w, hw, sub p hp q hq w hw⟩
      exact ⟨_, h.all p hp (by rw [tk]; exact hx) t m, .inl rfl⟩
  refine ⟨e, ⟨hl.asc, fun r hr w hw => ?_, l7, by omega, fun r hr => ?_⟩, ⟨e ▸ hn, by omega, fun r hr => ?_, fun r hr => ?_⟩, fun x hx => ?_, hl.mem, fun p hp gs => ?_⟩
  · obtain ⟨h1, p, hp, h2, t, h3, h4⟩ := h.is r hr
    rw [tk] at h1
    rcases List.mem_cons.mp hw with rfl | c
    · exact h1
    · rw [h4] at c; exact wsub c
  · obtain ⟨h1, p, hp, h2, t, h3, h4⟩ := h.is r hr
    rw [h4]
    have := wl t
    exact ⟨by omega, GS.Asc.nodup (wasc t)⟩
  · obtain ⟨h1, p, hp, h2, t, h3, h4⟩ := h.is r hr
    rw [h4]
    have := wl t
    omega
  · obtain ⟨h1, p, hp, h2, t, h3, h4⟩ := h.is r hr
    rw [h4]
    exact wasc t
  · obtain ⟨p, hp, rfl⟩ := List.mem_map.mp ((hl.mem x).mp hx)
    exact ok.nm p hp
  · rw [mem_may]
    refine and_congr_right fun _ => ?_
    rw [← hit_wy nd (sub p hp)]
    constructor
    · rintro ⟨ws, h1, h2⟩
      obtain ⟨_, p', hp', h3, t, h4, h5⟩ := h.is _ h1
      obtain ⟨i, hi⟩ := List.mem_iff_getElem?.mp hp
      obtain ⟨j, hj⟩ := List.mem_iff_getElem?.mp hp'
      have il := (List.getElem?_eq_some_iff.mp hi).1
      have ij := (List.getElem?_inj (by rw [List.length_map]; exact il) ok.nd (j := j)).mp (by rw [List.getElem?_map, List.getElem?_map, hi, hj]; exact congrArg some h3.symm)
      subst ij
      rw [hi] at hj
      cases hj
      have h5 : ws = wy ns t := h5
      exact ⟨t, h4, by rw [← h5]; exact h2⟩
    · rintro ⟨t, m, h1⟩
      exact ⟨wy ns t, h.all p hp (by rw [tk, hl.mem]; exact List.mem_map_of_mem hp) t m, h1⟩
theorem kp_get {pss : List PN} (nd : (pss.map (·.1)).Nodup) {p : PN} (hp : p ∈ pss) : dget (pss.map kpE) (.inr p.1) = some (.lst (p.2.map lotD)) := by
  induction pss with
  | nil => cases hp
  | cons a pss ih =>
    obtain ⟨n1, n2⟩ := List.nodup_cons.mp nd
    rcases List.mem_cons.mp hp with rfl | h
    · simp [dget, kpE]
    · have ne : a.1 ≠ p.1 := fun e => n1 (List.mem_map.mpr ⟨p, h, e.symm⟩)
      have ih := ih n2 h
      unfold dget at ih ⊢
      rw [List.map_cons, List.find?_cons_of_neg]
      · exact ih
      · simpa [kpE] using ne
def F_kept_by : FR := fun ds Φ => ∃ pss : List PN, ds = [.dic ((pss.map kpE).map (·.1)) ((pss.map kpE).map (·.2))] ∧ PssOk pss ∧ ∀ os ns, KeptR pss os ns → Φ (.d (roomF os ns))
theorem ok_kept_by (T : Txt K mg a) (G_lot_of : FnOk P w K mg base CX0 1 a.f_lot_of a.fd_lot_of ["names"] (spR (ZZ K a) F_lot_ofF)) (G_bits_of : FnOk P w K mg base CX0 1 a.f_bits_of a.fd_bits_of ["names", "some"] (spR (ZZ K a) F_bits_of)) (G_names_of : FnOk P w K mg base CX0 1 a.f_names_of a.fd_names_of ["names", "bits"] (spR (ZZ K a) F_names_of)) (G_least_meeting : FnOk P w K mg base CX0 2 a.f_least_meeting a.fd_least_meeting ["parts"] (spR (ZZ K a) F_least)) (G_Rule_init : FnOk P w K mg base CX0 3 a.f_Rule_init a.fd_Rule_init ["self", "name", "gone"] (spB (ZZ K a) F_Rule_initN)) (G_Room_init : FnOk P w K mg base CX0 2 a.f_Room_init a.fd_Room_init ["self", "rules"] (spB (ZZ K a) F_Room_initF)) : FnOk P w K mg base CX0 5 a.f_room_kept_by a.fd_room_kept_by ["parts"] (spR (ZZ K a) F_kept_by) := by
  refine T.F_room_kept_by.ok sc_room_kept_by (fun vs H Q E h => ?_) (fun cdv A outer s H vs Q E hr h => ?_)
  · obtain ⟨M, ds, Φ, _, al, ⟨pss, rfl, _⟩, _⟩ := h
    exact al.len
  · obtain ⟨M, ds, Φ, ex, al, ⟨pss, rfl, ok, fin⟩, q⟩ := h
    refine ⟨_, (pss_cons (ps_set (i := 1) sc_room_kept_by.nd rfl (Or.inr rfl) (pe_call G_lot_of (hr.mono (by decide)) (by rfl) T.m_lot_of T.F_lot_of.kp T.b_lot_of .nil pass0 (pa_cons (pe_callTy (call_listD rfl) (by rfl) T.n_list (by decide +kernel) (pa_cons (pv 0) pa_nil)) pa_nil)))
      (pss_cons (ps_set (i := 2) sc_room_kept_by.nd rfl (Or.inl rfl) (pe_lst pa_nil))
      (pss_cons (ps_for PassesOwn.never rfl (pi_tupK (K := K) rfl (pv 1)) (pg_name (i := 3) sc_room_kept_by.nd rfl (Or.inr rfl))
      (pss_cons (ps_set (i := 4) sc_room_kept_by.nd rfl (Or.inl rfl) (pe_call G_least_meeting (hr.mono (by decide)) (by rfl) T.m_least_meeting T.F_least_meeting.kp T.b_least_meeting .nil pass0 (pa_cons (pe_lc (own := [("part", 5)]) (g := (gName 5)) (tt := tYes) rfl sc_room_kept_by.nd (pi_list (pe_dget (units1 hr) (pv 0) (pv 3) (fun _ _ => rfl))) (blkOk_by (N := N_room_kept_by) (sc := defScope s_room_kept_by) (by decide +kernel)) (fun _ _ _ _ _ => (pg_name (i := 5) sc_room_kept_by.nd rfl (Or.inl rfl))) (fun _ _ _ _ _ => pts_nil) (fun _ _ _ _ _ => (pe_call G_bits_of (hr.mono (by decide)) (by rfl) T.m_bits_of T.F_bits_of.kp T.b_bits_of .nil pass0 (pa_cons (pv 1) (pa_cons (pv 5) pa_nil))))) pa_nil)))
      (pss_one (ps_expr (pe_bm PySem.F.plainAttrs_list PySem.F.slot_list_extend PySem.F.type_list_extend mt_extend (pv 2) (pa_cons (pe_lc (own := [("way", 6)]) (g := (gName 6)) (tt := tYes) rfl sc_room_kept_by.nd (pi_list (pv 4)) (blkOk_by (N := N_room_kept_by) (sc := defScope s_room_kept_by) (by decide +kernel)) (fun _ _ _ _ _ => (pg_name (i := 6) sc_room_kept_by.nd rfl (Or.inl rfl))) (fun _ _ _ _ _ => pts_nil) (fun _ _ _ _ _ => (pe_make T.mk_Rule G_Rule_init (hr.mono (by decide)) (by rfl) T.m_Rule T.b_Rule_init .nil pass0 (pa_cons (pv 3) (pa_cons (pe_call G_names_of (hr.mono (by decide)) (by rfl) T.m_names_of T.F_names_of.kp T.b_names_of .nil pass0 (pa_cons (pv 1) (pa_cons (pv 6) pa_nil))) pa_nil))))) pa_nil))))))
      (pss_one (ps_ret (pe_make T.mk_Room G_Room_init (hr.mono (by decide)) (by rfl) T.m_Room T.b_Room_init .nil pass0 (pa_cons (pv 2) pa_nil))))))), entR (n := 6) ex al rfl q ?_⟩
    walk_at "ent"
    have l7 := ok.l
    refine xs_seq <| xs_set (by decide) <| xr_call (fun _ => .nil) <| xa_cons <| xe_ofO <| xo_listD <| xe_var rfl ⟨pss.map kpE, rfl, _, rfl, xa_nil ⟨pss.map (·.1), .inr (by rw [List.map_map, List.map_map]; rfl), by rw [List.length_map]; omega, fun ns hl len => on_d ?_⟩⟩
    try dsimp only [List.set]
    have nd := GS.Asc.nodup hl.asc
    rw [List.length_map] at len
    refine xs_seq <| xs_setO (by decide) <| xo_lst <| xa_nil ⟨by simp, by simp, ?_⟩
    try dsimp only [List.set]
    refine xs_seq <| xs_for (vs := [3]) <| xi_tup <| xe_wk <| xe_var rfl ⟨ns.map .str, rfl, _, rfl, ?_⟩
    refine ⟨fun k δ => ∃ (rs : List Rl) (s3 s4 : S), δ = [.d (.dic ((pss.map kpE).map (·.1)) ((pss.map kpE).map (·.2))), .d (.tupF (ns.map .str)), .own (.lst (rs.map ruleO)), s3, s4, .no, .no] ∧ KeptI pss ns k rs, ⟨[], _, _, rfl, by simp, fun r h => (nomatch h), fun p _ h => (by simp at h)⟩, ?_, ?_⟩
    · rintro k d δ1 hk ⟨rs, s3, s4, rfl, inv⟩
      obtain ⟨x, hx, rfl⟩ : ∃ x, ns[k]? = some x ∧ D.str x = d := by rw [List.getElem?_map] at hk; exact Option.map_eq_some_iff.mp hk
      have kl := (List.getElem?_eq_some_iff.mp hx).1
      have xm := List.mem_of_getElem? hx
      obtain ⟨p, hp, rfl⟩ := List.mem_map.mp ((hl.mem x).mp xm)
      have pt := ok.pt p hp
      have tk : ns.take (k + 1) = ns.take k ++ [p.1] := GS.take_get hx
      have sub : ∀ q ∈ p.2, ∀ w ∈ q, w ∈ ns := fun q hq w hw => (hl.mem w).mpr ((pt q hq).2.2.2 w hw)
      refine xg_name (by decide) (by decide) ?_
      try dsimp only [List.set]
      refine xs_seq <| xs_set (by decide) <| xr_call (fun _ => .nil) <| xa_cons <| xe_ofO <| xo_fg (v := 5) (g := lotD) (f := fun q => .int (bo ns q)) (p := fun _ => true) <| xi_list <| xe_dget <| xe_var rfl <| xe_var rfl ⟨pss.map kpE, .inr p.1, _, rfl, rfl, kp_get ok.nd hp, _, .inl rfl, p.2, rfl, rfl, by have := ok.pl p hp; omega, fun q hq => ?_, _, rfl, xa_nil ⟨p.2.map (bo ns), ?_, fun t ht => ?_, by have := ok.pl p hp; rw [List.length_map]; omega, fun ts hts => on_d ?_⟩⟩
      · try dsimp only [List.set]
        have ql := nodup_len (pt q hq).2.1 (sub q hq)
        exact xt_yes ⟨rfl, rfl, fun _ => xr_call (fun _ => .nil) <| xa_cons <| xe_var rfl <| xa_cons <| xe_var rfl <| xa_nil ⟨ns, q, _, rfl, .inr rfl, nd, (pt q hq).2.1, sub q hq, by omega, by omega, on_d ⟨rfl, rfl⟩⟩⟩
      · rw [filter_tt]
        unfold intL
        rw [List.map_map]; rfl
      · obtain ⟨q, _, rfl⟩ := List.mem_map.mp ht
        exact bo_lt7 (by omega)
      try dsimp only [List.set]
      have tm : ∀ t ∈ ts, MinHit (p.2.map (bo ns)) t := fun t ht => (hts.is t).mp ht
      have off : ∀ t ∈ ts, t.testBit (ns.idxOf p.1) = false := fun t ht => min_off xm (fun q hq => (pt q hq).2.2.1) (tm t ht)
      have ix7 : ns.idxOf p.1 < 7 := by have := List.idxOf_lt_length_of_mem xm; omega
      have l20 : ts.length ≤ 20 := anti20 ix7 hts.nd (fun t ht => ⟨hts.lt t ht, off t ht⟩) fun r hr s hs h => (tm s hs).m r h (tm r hr).h
      refine xs_drop <| xe_ext ⟨_, rfl⟩ <| xe_ofO <| xo_fg (v := 6) (g := fun t : Nat => .int (t : Int)) (f := fun t => ruleO (p.1, wy ns t)) (p := fun _ => true) <| xi_list <| xe_var rfl ⟨_, .inl rfl, ts, rfl, rfl, by omega, fun t ht => ?_, _, rfl, ?_⟩
      · try dsimp only [List.set]
        have wl : (wy ns t).length ≤ ns.length := List.length_filter_le _ _
        refine xt_yes ⟨rfl, rfl, fun _ => xe_make (c := 0) rfl (fun _ => .nil) <| xa_cons <| xe_var rfl <| xa_cons <| xe_wkT <| xr_call (fun _ => .nil) <| xa_cons <| xe_var rfl <| xa_cons <| xe_var rfl <| xa_nil ⟨ns, unb ns t, by rw [bo_unb nd (min_lt (tm t ht))]; rfl, by omega, on_d ⟨_, rfl, xa_nil ⟨p.1, wy ns t, _, rfl, rfl, .inr rfl, ok.nm p hp, fun w hw => ?_, by omega, fun lot hlot => ⟨rfl, _, rfl, rfl, ?_⟩⟩⟩⟩⟩
        · obtain ⟨h1, h2⟩ := mem_wy.mp hw
          obtain ⟨p', hp', rfl⟩ := List.mem_map.mp ((hl.mem w).mp h1)
          exact ⟨ok.nm p' hp', fun e => by rw [e, off t ht] at h2; cases h2⟩
        · have : lot = wy ns t := GS.Asc.uniq hlot.asc (hl.asc.sublist List.filter_sublist) fun x => hlot.mem x
          rw [this]; exact ⟨rfl, rfl⟩
      · refine ⟨rs.map ruleO, _, rfl, rfl, ?_, rs ++ ts.map fun t => (p.1, wy ns t), .d (.str p.1), .d (.lst (intL ts)), ?_, ?_, fun r hr => ?_, fun p' hp' hm t m => ?_⟩
        · have := inv.l
          rw [filter_tt, List.length_map, List.length_map]; omega
        · rw [filter_tt, List.map_append, show (ts.map fun t => (p.1, wy ns t)).map ruleO = ts.map fun t => ruleO (p.1, wy ns t) from by rw [List.map_map]; rfl]; rfl
        · have := inv.l
          rw [List.length_append, List.length_map]; omega
        · rcases List.mem_append.mp hr with z | z
          · obtain ⟨h1, h2⟩ := inv.is r z
            exact ⟨by rw [tk]; exact List.mem_append_left _ h1, h2⟩
          · obtain ⟨t, ht, rfl⟩ := List.mem_map.mp z
            exact ⟨by rw [tk]; simp, p, hp, rfl, t, tm t ht, rfl⟩
        · rw [tk] at hm
          rcases List.mem_append.mp hm with z | z
          · exact List.mem_append_left _ (inv.all p' hp' z t m)
          · have e : p'.1 = p.1 := List.mem_singleton.mp z
            obtain ⟨i, hi⟩ := List.mem_iff_getElem?.mp hp
            obtain ⟨j, hj⟩ := List.mem_iff_getElem?.mp hp'
            have il := (List.getElem?_eq_some_iff.mp hi).1
            have ij := (List.getElem?_inj (by rw [List.length_map]; exact il) ok.nd (j := j)).mp (by rw [List.getElem?_map, List.getElem?_map, hi, hj]; exact congrArg some e.symm)
            subst ij
            rw [hi] at hj
            cases hj
            exact List.mem_append_right _ (List.mem_map.mpr ⟨t, (hts.is t).mpr m, rfl⟩)
    · rintro δ1 ⟨rs, s3, s4, rfl, inv⟩
      rw [List.length_map] at inv
      have l140 := inv.l
      refine xs_freeze (i := 2) (by decide) rfl ?_
      try dsimp only [List.set]
      refine xs_ret <| xe_make (c := 1) rfl (fun _ => .nil) <| xa_cons <| xe_var rfl <| xa_nil ⟨rs, rfl, .inl rfl, by omega, fun r hr => ?_, fun ns' hns => ⟨rfl, _, rfl, rfl, ?_⟩⟩
      · obtain ⟨_, p, hp, h2, t, h3, h4⟩ := inv.is r hr
        rw [h4]
        have : (wy ns t).length ≤ ns.length := List.length_filter_le _ _
        omega
      · obtain ⟨rfl, kept⟩ := inv.done ok hl hns
        exact fin rs _ kept
theorem eqv_sS' (a b : Str) : PyData.eqv (.str a) (.str b) = decide (a = b) := by
  unfold PyData.eqv
  rfl
/-! ### edges -/
abbrev Ed := Str × Str
def edD (e : Ed) : D := .tup [.str e.1, .str e.2]
def EdsD (d : D) (es : List Ed) : Prop := d = .lst (es.map edD) ∨ d = .tup (es.map edD)
def Jn (es : List Ed) (x y : Str) : Prop := (x, y) ∈ es ∨ (y, x) ∈ es
instance (es : List Ed) (x y : Str) : Decidable (Jn es x y) := inferInstanceAs (Decidable (_ ∨ _))
theorem Jn.symm {es : List Ed} {x y : Str} (h : Jn es x y) : Jn es y x := Or.symm h
theorem pla_eds : ∀ es : List Ed, plaL (es.map edD) = true
  | [] => rfl
  | _ :: es => by
    show (true && plaL (es.map edD)) = true
    rw [pla_eds es]; rfl
theorem eqv_ed (p q : Ed) : PyData.eqv (py (edD p)) (py (edD q)) = decide (p = q) := by
  have h : PyData.eqv (py (edD p)) (py (edD q)) = (PyData.eqv (.str p.1) (.str q.1) && (PyData.eqv (.str p.2) (.str q.2) && true)) := rfl
  rw [h, eqv_sS', eqv_sS', Bool.and_true, Bool.eq_iff_iff, Bool.and_eq_true, decide_eq_true_iff, decide_eq_true_iff, decide_eq_true_iff]
  exact ⟨fun h => Prod.ext h.1 h.2, fun h => by rw [h]; exact ⟨rfl, rfl⟩⟩
theorem any_eds (m : Ed) : ∀ es : List Ed, ((pyL (es.map edD)).any fun z => PyData.eqv z (py (edD m))) = decide (m ∈ es)
  | [] => rfl
  | p :: es => by
    show (PyData.eqv (py (edD p)) (py (edD m)) || (pyL (es.map edD)).any fun z => PyData.eqv z (py (edD m))) = _
    rw [any_eds m es, eqv_ed, Bool.eq_iff_iff, Bool.or_eq_true, decide_eq_true_iff, decide_eq_true_iff, decide_eq_true_iff, List.mem_cons]
    exact ⟨fun h => h.imp Eq.symm id, fun h => h.imp Eq.symm id⟩
def StrOkE (es : List Ed) : Prop := ∀ e ∈ es, PyData.strOk e.1 = true ∧ PyData.strOk e.2 = true
theorem shp_ed {p : Ed} (h : PyData.strOk p.1 = true ∧ PyData.strOk p.2 = true) : SeqAt.shaped (py (edD p)) = true := by
  show ((PyData.tuple [PyData.str p.1, PyData.str p.2]).canLay0 && decide ((PyData.tuple [PyData.str p.1, PyData.str p.2]).depth ≤ 64)) = true
  simp [PyData.canLay0, PyData.canLay0.eq_6, PyData.depth, PyData.canLayAll0, PyData.depthAll, h]
theorem lay_eds : ∀ {es : List Ed}, StrOkE es → PyData.canLayAll0 (pyL (es.map edD)) = true ∧ PyData.depthAll (pyL (es.map edD)) ≤ 2
  | [], _ => ⟨rfl, Nat.zero_le _⟩
  | e :: es, h => by
    obtain ⟨h1, h2⟩ := lay_eds (es := es) fun x hx => h x (List.mem_cons_of_mem _ hx)
    obtain ⟨s1, s2⟩ := h e (by simp)
    refine ⟨?_, ?_⟩
    · show PyData.canLayAll0 (PyData.tuple [.str e.1, .str e.2] :: pyL (es.map edD)) = true
      simp [PyData.canLay0, PyData.canLay0.eq_6, PyData.canLayAll0, s1, s2, h1]
    · show PyData.depthAll (PyData.tuple [.str e.1, .str e.2] :: pyL (es.map edD)) ≤ 2
      simp [PyData.depth, PyData.depthAll]
      omega
theorem shp_eds {d : D} {es : List Ed} (hd : EdsD d es) (h : StrOkE es) : SeqAt.shaped (py d) = true := by
  obtain ⟨h1, h2⟩ := lay_eds h
  rcases hd with rfl | rfl
  · show ((PyData.list (pyL (es.map edD))).canLay0 && decide ((PyData.list (pyL (es.map edD))).depth ≤ 64)) = true
    simp [PyData.canLay0, PyData.depth, h1]
    omega
  · show ((PyData.tuple (pyL (es.map edD))).canLay0 && decide ((PyData.tuple (pyL (es.map edD))).depth ≤ 64)) = true
    simp [PyData.canLay0, PyData.canLay0.eq_6, PyData.depth, h1]
    omega
def F_are_joined : FR := fun ds Φ => ∃ (es : List Ed) (d : D) (x y : Str), ds = [d, .str x, .str y] ∧ EdsD d es ∧ StrOkE es ∧ PyData.strOk x = true ∧ PyData.strOk y = true ∧ Φ (.d (.bl (decide (Jn es x y))))
theorem ok_are_joined (T : Txt K mg a) : FnOk P w K mg base CX0 1 a.f_are_joined a.fd_are_joined ["edges", "one", "other"] (spR (ZZ K a) F_are_joined) := by
  refine T.F_are_joined.ok sc_are_joined (fun vs H Q E h => ?_) (fun cdv A outer s H vs Q E hr h => ?_)
  · obtain ⟨M, ds, Φ, _, al, ⟨es, d, x, y, rfl, _⟩, _⟩ := h
    exact al.len
  · obtain ⟨M, ds, Φ, ex, al, ⟨es, d, x, y, rfl, hd, ok, sx, sy, fin⟩, q⟩ := h
    refine ⟨_, (pss_one (ps_ret (pe_or (pe_cmpR (show OpR _ (compareOp .In) (GX.rInSeq K) from GX.op_inSeq (units65 hr)) (pe_tup (pa_cons (pv 1) (pa_cons (pv 2) pa_nil))) (pv 0) rfl) (pe_one (pe_cmpR (show OpR _ (compareOp .In) (GX.rInSeq K) from GX.op_inSeq (units65 hr)) (pe_tup (pa_cons (pv 2) (pa_cons (pv 1) pa_nil))) (pv 0) rfl))))), entR (n := 0) ex al rfl q ?_⟩
    walk_at "ent"
    have go : ∀ u v : Str, PyData.strOk u = true → PyData.strOk v = true → pla (edD (u, v)) = true ∧ SeqAt.shaped (py (edD (u, v))) = true := fun u v hu hv => ⟨rfl, shp_ed ⟨hu, hv⟩⟩
    refine xs_ret <| xe_orV <| xe_inSeq <| xe_tup <| xa_cons <| xe_var rfl <| xa_cons <| xe_var rfl <| xa_nil ⟨by simp, xe_var rfl ⟨es.map edD, hd, rfl, pla_eds es, (go x y sx sy).2, shp_eds hd ok, _, rfl, ?_⟩⟩
    have e1 := any_eds (x, y) es
    have e2 := any_eds (y, x) es
    rw [show D.tup [D.str x, D.str y] = edD (x, y) from rfl, e1]
    by_cases c : (x, y) ∈ es
    · rw [decide_eq_true c]
      rw [decide_eq_true (show Jn es x y from .inl c)] at fin
      exact if_tt fin
    · rw [decide_eq_false c]
      refine if_ff <| xe_inSeq <| xe_tup <| xa_cons <| xe_var rfl <| xa_cons <| xe_var rfl <| xa_nil ⟨by simp, xe_var rfl ⟨es.map edD, hd, rfl, pla_eds es, (go y x sy sx).2, shp_eds hd ok, ?_⟩⟩
      rw [show D.tup [D.str y, D.str x] = edD (y, x) from rfl, e2]
      rw [show decide (Jn es x y) = decide ((y, x) ∈ es) from by
        rw [Bool.eq_iff_iff, decide_eq_true_eq, decide_eq_true_eq]
        exact ⟨fun h => h.elim (fun h => absurd h c) id, .inr⟩] at fin
      exact fin
/-! ### corners beside one -/
def ltN (u v : Str) : Bool := PySem.W.dataLt (.str u) (.str v)
theorem ltN_tri {u v : Str} (h1 : ltN u v = false) (h2 : ltN v u = false) : u = v := by
  unfold ltN PySem.W.dataLt at h1 h2
  have e := PyProof.Rows.lex_total _ _ h1 h2
  have e2 : PySem.W.keyToksAll ([u].map .str) = PySem.W.keyToksAll ([v].map .str) := by
    show PySem.W.keyToksAll [.str u] = PySem.W.keyToksAll [.str v]
    simp [PySem.W.keyToksAll, e]
  exact (List.cons.inj (GX.toks_S e2)).1
def Unj (es : List Ed) (ns : List Str) (c : Str) : List (List Str) := (ns.filter fun u => decide (Jn es c u)).flatMap fun u => ((ns.filter fun u => decide (Jn es c u)).filter fun v => ltN u v && !decide (Jn es u v)).map fun v => [u, v]
theorem flat_take {α β : Type} {xs : List α} {f : α → List β} {i : Nat} {x : α} (h : xs[i]? = some x) : (xs.take (i + 1)).flatMap f = (xs.take i).flatMap f ++ f x := by
  rw [show xs.take (i + 1) = xs.take i ++ [x] from GS.take_get h, List.flatMap_append]; simp
def F_unjoined : FR := fun ds Φ => ∃ (es : List Ed) (d : D) (ns : List Str) (c : Str), ds = [d, .tup (ns.map .str), .str c] ∧ EdsD d es ∧ StrOkE es ∧ ns.length ≤ 100 ∧ (∀ n ∈ ns, PyData.strOk n = true) ∧ PyData.strOk c = true ∧ Φ (.own (.lst ((Unj es ns c).map lotD)))
theorem ok_unjoined (T : Txt K mg a) (G_are_joined : FnOk P w K mg base CX0 1 a.f_are_joined a.fd_are_joined ["edges", "one", "other"] (spR (ZZ K a) F_are_joined)) : FnOk P w K mg base CX0 2 a.f_unjoined_beside a.fd_unjoined_beside ["edges", "names", "corner"] (spR (ZZ K a) F_unjoined) := by
  refine T.F_unjoined_beside.ok sc_unjoined_beside (fun vs H Q E h => ?_) (fun cdv A outer s H vs Q E hr h => ?_)
  · obtain ⟨M, ds, Φ, _, al, ⟨es, d, ns, c, rfl, _⟩, _⟩ := h
    exact al.len
  · obtain ⟨M, ds, Φ, ex, al, ⟨es, d, ns, c, rfl, hd, ok, l, nok, cok, fin⟩, q⟩ := h
    refine ⟨_, (pss_cons (ps_set (i := 3) sc_unjoined_beside.nd rfl (Or.inr rfl) (pe_lc (own := [("name", 4)]) (g := (gName 4))  rfl sc_unjoined_beside.nd (pi_tupK (K := K) rfl (pv 1)) (blkOk_by (N := N_unjoined_beside) (sc := defScope s_unjoined_beside) (by decide +kernel)) (fun _ _ _ _ _ => (pg_name (i := 4) sc_unjoined_beside.nd rfl (Or.inl rfl))) (fun _ _ _ _ _ => pts_one (pt_val (pe_call G_are_joined (hr.mono (by decide)) (by rfl) T.m_are_joined T.F_are_joined.kp T.b_are_joined .nil pass0 (pa_cons (pv 0) (pa_cons (pv 2) (pa_cons (pv 4) pa_nil)))))) (fun _ _ _ _ _ => (pv 4))))
      (pss_one (ps_ret (pe_lc2 (own := [("one", 5), ("other", 6)]) (vs1 := [6]) (g := (gName 5)) (g1 := (gName 6)) (tt := tYes)  rfl sc_unjoined_beside.nd (pi_list (pv 3)) (blkOk_by (N := N_unjoined_beside) (sc := defScope s_unjoined_beside) (by decide +kernel)) (by decide) (fun _ _ _ _ _ => (pg_name (i := 5) sc_unjoined_beside.nd rfl (Or.inl rfl))) (fun _ _ _ _ _ => pts_nil) (fun _ _ _ _ _ => (pi_listK (K := K) rfl (pv 3))) (fun _ _ _ _ _ => (pg_name (i := 6) sc_unjoined_beside.nd rfl (Or.inl rfl))) (fun _ _ _ _ _ => pts_one (PW.pt (pw_and (pt_cmpR (show OpR _ _ (GX.rLtAny K) from GX.op_ltAny (units65 hr)) (pv 5) (pv 6) (nomark _)) (pw_and1 (pt_not (pt_val (pe_call G_are_joined (hr.mono (by decide)) (by rfl) T.m_are_joined T.F_are_joined.kp T.b_are_joined .nil pass0 (pa_cons (pv 0) (pa_cons (pv 5) (pa_cons (pv 6) pa_nil)))))))))) (fun _ _ _ _ _ => (pe_tup (pa_cons (pv 5) (pa_cons (pv 6) pa_nil)))))))), entR (n := 4) ex al rfl q ?_⟩
    walk_at "ent"
    refine xs_seq <| xs_set (by decide) <| xe_ofO <| xo_fg (v := 4) (g := D.str) (f := D.str) (p := fun u => decide (Jn es c u)) <| xi_tup <| xe_var rfl ⟨_, rfl, ns, rfl, rfl, by omega, fun u hu => ?_, _, rfl, ?_⟩
    · try dsimp only [List.set]
      exact xt_test <| xr_call (fun _ => .nil) <| xa_cons <| xe_var rfl <| xa_cons <| xe_var rfl <| xa_cons <| xe_var rfl <| xa_nil ⟨es, d, c, u, rfl, hd, ok, cok, nok u hu, on_d ⟨_, rfl, rfl, rfl, fun _ => xe_var rfl ⟨rfl, rfl⟩⟩⟩
    try dsimp only [List.set]
    have un : Unj es ns c = (ns.filter fun u => decide (Jn es c u)).flatMap fun u => ((ns.filter fun u => decide (Jn es c u)).filter fun v => ltN u v && !decide (Jn es u v)).map fun v => [u, v] := rfl
    have bok : ∀ u ∈ ns.filter fun u => decide (Jn es c u), PyData.strOk u = true := fun u hu => nok u (List.mem_filter.mp hu).1
    have bl : (ns.filter fun u => decide (Jn es c u)).length ≤ 100 := Nat.le_trans (List.length_filter_le _ _) l
    generalize (ns.filter fun u => decide (Jn es c u)) = us at *
    rw [un] at fin
    refine xs_retO <| xo_lc2 (vs := [5, 6]) (vs1 := [6]) <| xi_list <| xe_var rfl ⟨_, .inl rfl, fun v hv => by simp at hv; rcases hv with rfl | rfl <;> rfl, by simp, by simp; omega, fun i acc δ => δ = [.d d, .d (.tup (ns.map .str)), .d (.str c), .d (.lst (us.map .str)), .no, .no, .no] ∧ acc = ((us.take i).flatMap fun u => (us.filter fun v => ltN u v && !decide (Jn es u v)).map fun v => [u, v]).map lotD, ⟨rfl, rfl⟩, ?_, ?_⟩
    · rintro i x acc δ1 bs hb hi ⟨rfl, rfl⟩
      obtain ⟨u, hu, rfl⟩ : ∃ u, us[i]? = some u ∧ D.str u = x := by rw [List.getElem?_map] at hi; exact Option.map_eq_some_iff.mp hi
      have uok := bok u (List.mem_of_getElem? hu)
      refine xg_name (by decide) (hb _ (by decide)) ?_
      try dsimp only [List.set]
      refine xt_yes <| if_tt <| xi_list <| xe_var rfl ⟨_, .inl rfl, by simp; omega, fun v hv => by simp at hv; subst hv; rfl, fun j acc δ => δ = [.d d, .d (.tup (ns.map .str)), .d (.str c), .d (.lst (us.map .str)), .no, .d (.str u), .no] ∧ acc = ((us.take i).flatMap fun u => (us.filter fun v => ltN u v && !decide (Jn es u v)).map fun v => [u, v]).map lotD ++ (((us.take j).filter fun v => ltN u v && !decide (Jn es u v)).map fun v => [u, v]).map lotD, ⟨rfl, by simp⟩, ?_, ?_⟩
      · rintro j x acc δ5 bs5 hb5 hj ⟨rfl, rfl⟩
        obtain ⟨v, hv, rfl⟩ : ∃ v, us[j]? = some v ∧ D.str v = x := by rw [List.getElem?_map] at hj; exact Option.map_eq_some_iff.mp hj
        have vok := bok v (List.mem_of_getElem? hv)
        have tk : us.take (j + 1) = us.take j ++ [v] := GS.take_get hv
        refine xg_name (by decide) (hb5 _ (by decide)) ?_
        try dsimp only [List.set]
        have e : PySem.W.dataLt (py (.str u)) (py (.str v)) = ltN u v := rfl
        refine xt_and <| xt_test <| xe_ltAny <| xe_var rfl <| xe_var rfl ⟨rfl, rfl, rfl, nofun, by simp [py, PyData.depth], _, rfl, ?_⟩
        rw [e]
        cases h1 : ltN u v with
        | false =>
          refine if_ff <| if_ff ⟨rfl, ?_⟩
          rw [tk, List.filter_append]
          simp [h1]
        | true =>
          refine if_tt <| xt_not <| xt_test <| xr_call (fun _ => .nil) <| xa_cons <| xe_var rfl <| xa_cons <| xe_var rfl <| xa_cons <| xe_var rfl <| xa_nil ⟨es, d, u, v, rfl, hd, ok, uok, vok, on_d ⟨_, rfl, ?_⟩⟩
          by_cases h2 : Jn es u v
          · rw [decide_eq_true h2]
            refine if_nt <| ⟨rfl, ?_⟩
            rw [tk, List.filter_append]
            simp [h1, h2]
          · rw [decide_eq_false h2]
            refine if_nf <| xe_tup <| xa_cons <| xe_var rfl <| xa_cons <| xe_var rfl <| xa_nil ⟨by simp, rfl, ?_⟩
            rw [tk, List.filter_append]
            simp [h1, h2, lotD]
      · rintro acc δ5 ⟨rfl, rfl⟩
        rw [List.length_map, List.take_length]
        exact ⟨rfl, by rw [flat_take hu, List.map_append]⟩
    · rintro acc δ1 ⟨rfl, rfl⟩
      rw [List.length_map, List.take_length]
      exact fin
theorem kp_none {pss : List PN} {x : Str} (h : x ∉ pss.map (·.1)) : dget (pss.map kpE) (.inr x) = none := by
  unfold dget
  rw [List.find?_eq_none.mpr]
  · rfl
  · intro kv hkv
    obtain ⟨e, he, rfl⟩ := List.mem_map.mp hkv
    have : e.1 ≠ x := fun z => h (List.mem_map.mpr ⟨e, he, z⟩)
    simpa [kpE] using this
/-! ### edges that are good; graphs taken down -/
structure EdsOk (es : List Ed) : Prop where
  l : es.length ≤ 100
  nm : ∀ e ∈ es, NmOk e.1 ∧ NmOk e.2 ∧ e.1 ≠ e.2
  s : StrOkE es
def ends (es : List Ed) : List Str := es.flatMap fun e => [e.1, e.2]
theorem mem_ends {es : List Ed} {x : Str} : x ∈ ends es ↔ ∃ e ∈ es, x = e.1 ∨ x = e.2 := by
  unfold ends
  simp [List.mem_flatMap]
theorem Jn.ends {es : List Ed} {x y : Str} (h : Jn es x y) : x ∈ ends es ∧ y ∈ ends es := by
  rcases h with h | h
  · exact ⟨mem_ends.mpr ⟨_, h, .inl rfl⟩, mem_ends.mpr ⟨_, h, .inr rfl⟩⟩
  · exact ⟨mem_ends.mpr ⟨_, h, .inr rfl⟩, mem_ends.mpr ⟨_, h, .inl rfl⟩⟩
theorem Jn.ne {es : List Ed} (ok : EdsOk es) {x y : Str} (h : Jn es x y) : x ≠ y := by
  rcases h with h | h
  · exact (ok.nm _ h).2.2
  · exact (ok.nm _ h).2.2.symm
theorem EdsOk.end' {es : List Ed} (ok : EdsOk es) {x : Str} (h : x ∈ ends es) : NmOk x ∧ PyData.strOk x = true := by
  obtain ⟨e, he, rfl | rfl⟩ := mem_ends.mp h
  · exact ⟨(ok.nm e he).1, (ok.s e he).1⟩
  · exact ⟨(ok.nm e he).2.1, (ok.s e he).2⟩
theorem ok1_nm {x : Str} (h : NmOk x) : ok1 (.str x) := ⟨⟨_, rfl⟩, fun s e => by cases e; exact h.1⟩
theorem ed_okS {e : Ed} (h : NmOk e.1 ∧ NmOk e.2) : okS (edD e) := by
  refine ⟨⟨⟨_, rfl⟩, nofun⟩, fun xs hx => ?_⟩
  obtain rfl : xs = [.str e.1, .str e.2] := by
    rcases hx with hx | hx
    · cases hx
    · exact (D.tup.inj hx).symm
  refine ⟨by simp, fun x hx => ?_⟩
  rcases List.mem_cons.mp hx with rfl | hx
  · exact ok1_nm h.1
  · rw [List.mem_singleton.mp hx]; exact ok1_nm h.2
def F_check_edgesX : FRX := fun ds Φ _ => ∃ (es : List Ed) (d : D), ds = [d] ∧ EdsD d es ∧ EdsOk es ∧ Φ (.d .non)
def F_check_edges : FR := fun ds Φ => ∃ (es : List Ed) (d : D), ds = [d] ∧ EdsD d es ∧ EdsOk es ∧ Φ (.d .non)
theorem ok_check_edgesX (T : Txt K mg a) (G_is_sequence : FnOk P w K mg base CX0 1 a.f_is_sequence a.fd_is_sequence ["value"] (spR (ZZ K a) F_is_sequence)) (G_is_tuple_of : FnOk P w K mg base CX0 1 a.f_is_tuple_of a.fd_is_tuple_of ["value", "many"] (spR (ZZ K a) F_tuple_of)) (G_are_unlike : FnOk P w K mg base CX0 3 a.f_are_unlike a.fd_are_unlike ["value"] (spR (ZZ K a) F_are_unlike)) : FnOk P w K mg base (L2.CX P w) 4 a.f_check_edges a.fd_check_edges ["edges"] (spRX (ZZ K a) F_check_edgesX) := by
  refine T.F_check_edges.okX sc_check_edges (fun vs H Q E h => ?_) (fun cdv A outer s H vs Q E hr h => ?_)
  · obtain ⟨M, ds, Φ, Ξ, _, al, ⟨es, d, rfl, _⟩, _⟩ := h
    exact al.len
  · obtain ⟨M, ds, Φ, Ξ, ex, al, ⟨es, d, rfl, hd, ok, fin⟩, q, qx⟩ := h
    refine ⟨_, (pss_cons (ps_if (pt_not (pt_val (pe_call G_is_sequence (hr.mono (by decide)) (by rfl) T.m_is_sequence T.F_is_sequence.kp T.b_is_sequence .nil pass0 (pa_cons (pv 0) pa_nil)))) (pss_one (GX.ps_raiseO rfl (takes_of rfl rfl rfl rfl) T.oe_InvalidDrawing T.ei_InvalidDrawing T.et_InvalidDrawing (ok_InvalidDrawing_init T) (hr.mono (by decide)) T.b_InvalidDrawing_init (by rfl) T.m_InvalidDrawing (pa_cons pe_int pa_nil))) pss_nil)
      (pss_one (ps_for (passes_of rfl) rfl (G.pi_or (pi_enum (by rfl) T.n_enumerate (pa_cons (pv 0) pa_nil)) (GE.pi_enumT (by rfl) T.n_enumerate (pa_cons (pv 0) pa_nil))) (pg_tup rfl (pgs_cons (pg_name (i := 1) sc_check_edges.nd rfl (Or.inl rfl)) (pgs_cons (pg_name (i := 2) sc_check_edges.nd rfl (Or.inl rfl)) pgs_nil)))
      (pss_one (ps_if (PW.pt (pw_or (pt_not (pt_val (pe_call G_is_tuple_of (hr.mono (by decide)) (by rfl) T.m_is_tuple_of T.F_is_tuple_of.kp T.b_is_tuple_of .nil pass0 (pa_cons (pv 2) (pa_cons pe_int pa_nil))))) (pw_or1 (pt_not (pt_val (pe_call G_are_unlike (hr.mono (by decide)) (by rfl) T.m_are_unlike T.F_are_unlike.kp T.b_are_unlike .nil pass0 (pa_cons (pv 2) pa_nil))))))) (pss_one (GX.ps_raiseO rfl (takes_of rfl rfl rfl rfl) T.oe_InvalidDrawing T.ei_InvalidDrawing T.et_InvalidDrawing (ok_InvalidDrawing_init T) (hr.mono (by decide)) T.b_InvalidDrawing_init (by rfl) T.m_InvalidDrawing (pa_cons (pv 1) pa_nil))) pss_nil))))), entRX (n := 2) ex al rfl q ?_⟩
    walk_at "ent"
    have sq : (seqOf d).isSome = true := by rcases hd with rfl | rfl <;> rfl
    refine xs_seq <| xs_if <| xt_not <| xt_test <| xr_call (fun _ => .nil) <| xa_cons <| xe_var rfl <| xa_nil ⟨d, rfl, by rcases hd with rfl | rfl <;> exact ⟨_, rfl⟩, on_d ⟨_, rfl, ?_⟩⟩
    rw [sq]
    refine if_nt <| xs_next ?_
    refine xs_for (vs := [1, 2]) <| xi_enumV (d := d) (xs := es.map edD) rfl hd ⟨fun i δ => ∃ s1 s2 : S, δ = [.d d, s1, s2], ⟨_, _, rfl⟩, ?_, ?_⟩
    · rintro i x δ1 hi ⟨s1, s2, rfl⟩
      obtain ⟨y, hy, rfl⟩ := enumD_at hi
      obtain ⟨e, he, rfl⟩ : ∃ e, es[i]? = some e ∧ edD e = y := by rw [List.getElem?_map] at hy; exact Option.map_eq_some_iff.mp hy
      obtain ⟨n1, n2, ne⟩ := ok.nm e (List.mem_of_getElem? he)
      refine xg_tup (xs := [.int i, edD e]) rfl <| xgs_cons <| xg_name (by decide) (by decide) <| xgs_cons <| xg_name (by decide) (by decide) <| xgs_nil ?_
      try dsimp only [List.set]
      refine xs_if <| xt_or <| xt_not <| xt_test <| xr_call (fun _ => .nil) <| xa_cons <| xe_var rfl <| xa_cons <| xe_int <| xa_nil ⟨_, 2, rfl, on_d ⟨_, rfl, if_nt ?_⟩⟩
      refine xt_not <| xt_test <| xr_call (fun _ => .nil) <| xa_cons <| xe_var rfl <| xa_nil ⟨edD e, rfl, ed_okS ⟨n1, n2⟩, fun b hb => on_d ⟨_, rfl, ?_⟩⟩
      have : b = true := hb.mpr ⟨[e.1, e.2], .inr rfl, fun w hw => by
        rcases List.mem_cons.mp hw with rfl | hw
        · exact n1.2
        · rw [List.mem_singleton.mp hw]; exact n2.2, by simp [ne]⟩
      subst this
      exact if_nt <| xs_next ⟨_, _, rfl⟩
    · rintro δ1 ⟨s1, s2, rfl⟩
      exact fin
theorem ok_check_edges {ps : List Str} (h : FnOk P w K mg base (L2.CX P w) 4 a.f_check_edges a.fd_check_edges ps (spRX (ZZ K a) F_check_edgesX)) : FnOk P w K mg base CX0 4 a.f_check_edges a.fd_check_edges ps (spR (ZZ K a) F_check_edges) := calmR h fun ds Φ ⟨es, d, e, hd, ok, fin⟩ => ⟨es, d, e, hd, ok, fin⟩
/-- who may leave when a graph is taken down -/
structure TakeR (es : List Ed) (os : List Rl) (ns : List Str) : Prop where
  few : Few os ns
  rok : RoomOk os ns
  nm : ∀ x ∈ ns, NmOk x
  ns : ∀ x, x ∈ ns ↔ x ∈ ends es
  may : ∀ x ∈ ends es, ∀ gs, x ∈ mayS os gs ↔ x ∉ gs ∧ ∀ u v, Jn es x u → Jn es x v → u ≠ v → ¬ Jn es u v → u ∈ gs ∨ v ∈ gs
theorem mem_unj {es : List Ed} {ns : List Str} {c : Str} {q : List Str} : q ∈ Unj es ns c ↔ ∃ u v, (u ∈ ns ∧ Jn es c u) ∧ (v ∈ ns ∧ Jn es c v) ∧ ltN u v = true ∧ ¬ Jn es u v ∧ q = [u, v] := by
  unfold Unj
  simp only [List.mem_flatMap, List.mem_filter, List.mem_map, decide_eq_true_eq, Bool.and_eq_true, Bool.not_eq_true', decide_eq_false_iff_not]
  constructor
  · rintro ⟨u, hu, v, ⟨hv, h1, h2⟩, rfl⟩
    exact ⟨u, v, hu, hv, h1, h2, rfl⟩
  · rintro ⟨u, v, hu, hv, h1, h2, rfl⟩
    exact ⟨u, hu, v, ⟨hv, h1, h2⟩, rfl⟩
theorem ltN_irr (u : Str) : ltN u u = false := PyProof.Rows.lex_irrefl _
theorem Unj.len {es : List Ed} {ns : List Str} {c : Str} (l : ns.length ≤ 7) : (Unj es ns c).length ≤ 400 := by
  unfold Unj
  have l1 : (ns.filter fun u => decide (Jn es c u)).length ≤ 7 := Nat.le_trans (List.length_filter_le _ _) l
  generalize (ns.filter fun u => decide (Jn es c u)) = us at *
  have : ∀ vs : List Str, (vs.flatMap fun u => (us.filter fun v => ltN u v && !decide (Jn es u v)).map fun v => [u, v]).length ≤ 7 * vs.length := fun vs => by
    induction vs with
    | nil => simp
    | cons v vs ih =>
      rw [List.flatMap_cons, List.length_append, List.length_map, List.length_cons]
      have := List.length_filter_le (fun w => ltN v w && !decide (Jn es v w)) us
      omega
  have := this us
  omega
theorem take_pss {es : List Ed} (ok : EdsOk es) {ns : List Str} (hl : GS.IsLot ns (ends es)) (l7 : ns.length ≤ 7) : PssOk (ns.map fun n => (n, Unj es ns n)) := by
  have e : (ns.map fun n => ((n, Unj es ns n) : PN)).map (·.1) = ns := by rw [List.map_map]; exact List.map_id ns
  refine ⟨by rw [List.length_map]; exact l7, by rw [e]; exact GS.Asc.nodup hl.asc, fun p hp => ?_, fun p hp => ?_, fun p hp q hq => ?_⟩
  · obtain ⟨n, hn, rfl⟩ := List.mem_map.mp hp
    exact (ok.end' ((hl.mem n).mp hn)).1
  · obtain ⟨n, hn, rfl⟩ := List.mem_map.mp hp
    exact Unj.len l7
  · obtain ⟨n, hn, rfl⟩ := List.mem_map.mp hp
    obtain ⟨u, v, ⟨un, ju⟩, ⟨vn, jv⟩, lt, _, rfl⟩ := mem_unj.mp hq
    have uv : u ≠ v := fun e => by rw [e, ltN_irr] at lt; cases lt
    refine ⟨by simp, by simp [uv], by simp [Jn.ne ok ju, Jn.ne ok jv], fun w hw => ?_⟩
    rw [e]
    rcases List.mem_cons.mp hw with rfl | hw
    · exact un
    · rw [List.mem_singleton.mp hw]; exact vn
theorem take_done {es : List Ed} {ns ns' : List Str} {os : List Rl} (hl : GS.IsLot ns (ends es)) (k : KeptR (ns.map fun n => (n, Unj es ns n)) os ns') : TakeR es os ns' := by
  have e : (ns.map fun n => ((n, Unj es ns n) : PN)).map (·.1) = ns := by rw [List.map_map]; exact List.map_id ns
  refine ⟨k.few, k.rok, k.nm, fun x => by rw [k.ns, e, hl.mem], fun x hx gs => ?_⟩
  have xn := (hl.mem x).mpr hx
  have := k.may (x, Unj es ns x) (List.mem_map.mpr ⟨x, xn, rfl⟩) gs
  rw [this]
  refine and_congr_right fun _ => ⟨fun h u v ju jv ne nj => ?_, fun h q hq => ?_⟩
  · have un := (hl.mem u).mpr ju.ends.2
    have vn := (hl.mem v).mpr jv.ends.2
    cases c : ltN u v with
    | true =>
      obtain ⟨w, h1, h2⟩ := h _ (mem_unj.mpr ⟨u, v, ⟨un, ju⟩, ⟨vn, jv⟩, c, nj, rfl⟩)
      rcases List.mem_cons.mp h1 with rfl | h1
      · exact .inl h2
      · rw [List.mem_singleton.mp h1] at h2; exact .inr h2
    | false =>
      have c2 : ltN v u = true := by
        cases c2 : ltN v u with
        | true => rfl
        | false => exact absurd (ltN_tri c c2) ne
      obtain ⟨w, h1, h2⟩ := h _ (mem_unj.mpr ⟨v, u, ⟨vn, jv⟩, ⟨un, ju⟩, c2, fun j => nj j.symm, rfl⟩)
      rcases List.mem_cons.mp h1 with rfl | h1
      · exact .inr h2
      · rw [List.mem_singleton.mp h1] at h2; exact .inl h2
  · obtain ⟨u, v, ⟨_, ju⟩, ⟨_, jv⟩, lt, nj, rfl⟩ := mem_unj.mp hq
    have uv : u ≠ v := fun e => by rw [e, ltN_irr] at lt; cases lt
    rcases h u v ju jv uv nj with c | c
    · exact ⟨u, by simp, c⟩
    · exact ⟨v, by simp, c⟩
def F_taken : FR := fun ds Φ => ∃ (es : List Ed) (d : D), ds = [d] ∧ EdsD d es ∧ EdsOk es ∧ (∀ ns, GS.IsLot ns (ends es) → ns.length ≤ 7) ∧ ∀ os ns, TakeR es os ns → Φ (.d (roomF os ns))
theorem ok_taken (T : Txt K mg a) (G_check_edges : FnOk P w K mg base CX0 4 a.f_check_edges a.fd_check_edges ["edges"] (spR (ZZ K a) F_check_edges)) (G_lot_of : FnOk P w K mg base CX0 1 a.f_lot_of a.fd_lot_of ["names"] (spR (ZZ K a) F_lot_of)) (G_unjoined_beside : FnOk P w K mg base CX0 2 a.f_unjoined_beside a.fd_unjoined_beside ["edges", "names", "corner"] (spR (ZZ K a) F_unjoined)) (G_room_kept_by : FnOk P w K mg base CX0 5 a.f_room_kept_by a.fd_room_kept_by ["parts"] (spR (ZZ K a) F_kept_by)) : FnOk P w K mg base CX0 6 a.f_taken_down a.fd_taken_down ["edges"] (spR (ZZ K a) F_taken) := by
  refine T.F_taken_down.ok sc_taken_down (fun vs H Q E h => ?_) (fun cdv A outer s H vs Q E hr h => ?_)
  · obtain ⟨M, ds, Φ, _, al, ⟨es, d, rfl, _⟩, _⟩ := h
    exact al.len
  · obtain ⟨M, ds, Φ, ex, al, ⟨es, d, rfl, hd, ok, few, fin⟩, q⟩ := h
    refine ⟨_, (pss_cons (ps_expr (pe_call G_check_edges (hr.mono (by decide)) (by rfl) T.m_check_edges T.F_check_edges.kp T.b_check_edges .nil pass0 (pa_cons (pv 0) pa_nil)))
      (pss_cons (ps_set (i := 1) sc_taken_down.nd rfl (Or.inr rfl) (pe_call G_lot_of (hr.mono (by decide)) (by rfl) T.m_lot_of T.F_lot_of.kp T.b_lot_of .nil pass0 (pa_cons (pe_lc2 (own := [("edge", 2), ("name", 3)]) (vs1 := [3]) (g := (gName 2)) (g1 := (gName 3)) (tt := tYes) (tt1 := tYes) rfl sc_taken_down.nd (G.pi_or (pi_list (pv 0)) (pi_tupK (K := K) rfl (pv 0))) (blkOk_by (N := N_taken_down) (sc := defScope s_taken_down) (by decide +kernel)) (by decide) (fun _ _ _ _ _ => (pg_name (i := 2) sc_taken_down.nd rfl (Or.inl rfl))) (fun _ _ _ _ _ => pts_nil) (fun _ _ _ _ _ => (pi_tupK (K := K) rfl (pv 2))) (fun _ _ _ _ _ => (pg_name (i := 3) sc_taken_down.nd rfl (Or.inl rfl))) (fun _ _ _ _ _ => pts_nil) (fun _ _ _ _ _ => (pv 3))) pa_nil)))
      (pss_one (ps_ret (pe_call G_room_kept_by (hr.mono (by decide)) (by rfl) T.m_room_kept_by T.F_room_kept_by.kp T.b_room_kept_by .nil pass0 (pa_cons (pe_dc (own := [("name", 3)]) (g := (gName 3)) (tt := tYes) rfl sc_taken_down.nd (pi_tupK (K := K) rfl (pv 1)) (blkOk_by (N := N_taken_down) (sc := defScope s_taken_down) (by decide +kernel)) (fun _ _ _ _ _ => (pg_name (i := 3) sc_taken_down.nd rfl (Or.inl rfl))) (fun _ _ _ _ _ => pts_nil) (fun _ _ _ _ _ => (pv 3)) (fun _ _ _ _ _ => (pe_call G_unjoined_beside (hr.mono (by decide)) (by rfl) T.m_unjoined_beside T.F_unjoined_beside.kp T.b_unjoined_beside .nil pass0 (pa_cons (pv 0) (pa_cons (pv 1) (pa_cons (pv 3) pa_nil)))))) pa_nil)))))), entR (n := 3) ex al rfl q ?_⟩
    walk_at "ent"
    have l100 := ok.l
    refine xs_seq <| xs_drop <| xr_call (fun _ => .nil) <| xa_cons <| xe_var rfl <| xa_nil ⟨es, d, rfl, hd, ok, on_d ?_⟩
    refine xs_seq <| xs_set (by decide) <| xr_call (fun _ => .nil) <| xa_cons <| xe_ofO <| xo_lc2 (vs := [2, 3]) (vs1 := [3]) <| xi_seqV rfl hd ⟨fun v hv => by simp at hv; rcases hv with rfl | rfl <;> rfl, by simp, by simp; omega, fun i acc δ => δ = [.d d, .no, .no, .no] ∧ acc = (ends (es.take i)).map .str, ⟨rfl, rfl⟩, ?_, ?_⟩
    · rintro i x acc δ1 bs hb hi ⟨rfl, rfl⟩
      obtain ⟨e, he, rfl⟩ : ∃ e, es[i]? = some e ∧ edD e = x := by rw [List.getElem?_map] at hi; exact Option.map_eq_some_iff.mp hi
      refine xg_name (by decide) (hb _ (by decide)) ?_
      try dsimp only [List.set]
      refine xt_yes <| if_tt <| xi_tup <| xe_var rfl ⟨_, rfl, by simp, fun v hv => by simp at hv; subst hv; rfl, fun j acc δ => δ = [.d d, .no, .d (edD e), .no] ∧ acc = (ends (es.take i)).map .str ++ ([e.1, e.2].take j).map .str, ⟨rfl, by simp⟩, ?_, ?_⟩
      · rintro j x acc δ5 bs5 hb5 hj ⟨rfl, rfl⟩
        obtain ⟨v, hv, rfl⟩ : ∃ v, [e.1, e.2][j]? = some v ∧ D.str v = x := by rw [show [D.str e.1, D.str e.2] = [e.1, e.2].map .str from rfl, List.getElem?_map] at hj; exact Option.map_eq_some_iff.mp hj
        refine xg_name (by decide) (hb5 _ (by decide)) ?_
        try dsimp only [List.set]
        refine xt_yes <| if_tt <| xe_var rfl ⟨rfl, ?_⟩
        rw [show [e.1, e.2].take (j + 1) = [e.1, e.2].take j ++ [v] from GS.take_get hv, List.map_append, List.append_assoc]
        rfl
      · rintro acc δ5 ⟨rfl, rfl⟩
        refine ⟨rfl, ?_⟩
        unfold ends
        rw [flat_take he, List.map_append]
        rfl
    · rintro acc δ1 ⟨rfl, rfl⟩
      rw [List.length_map, List.take_length]
      have el : (ends es).length < 4000 := by
        have : ∀ xs : List Ed, (ends xs).length = 2 * xs.length := fun xs => by
          induction xs with
          | nil => rfl
          | cons x xs ih => unfold ends at ih ⊢; rw [List.flatMap_cons, List.length_append, ih]; simp; omega
        rw [this]; omega
      refine ⟨_, rfl, xa_nil ⟨ends es, .inr rfl, el, fun ns hl len => on_d ?_⟩⟩
      try dsimp only [List.set]
      have l7 := few ns hl
      refine xs_ret <| xr_call (fun _ => .nil) <| xa_cons <| xe_ofOD <| xo_dc (vs := [3]) <| xi_tup <| xe_var rfl ⟨ns.map .str, rfl, by simp, by rw [List.length_map]; omega, fun k acc δ => δ = [.d d, .d (.tup (ns.map .str)), .no, .no] ∧ acc = ((ns.take k).map fun n => ((n, Unj es ns n) : PN)).map kpE, ⟨rfl, rfl⟩, ?_, ?_⟩
      · rintro k x acc δ1 bs hb hk ⟨rfl, rfl⟩
        obtain ⟨n, hn, rfl⟩ : ∃ n, ns[k]? = some n ∧ D.str n = x := by rw [List.getElem?_map] at hk; exact Option.map_eq_some_iff.mp hk
        have kl := (List.getElem?_eq_some_iff.mp hn).1
        have nm := List.mem_of_getElem? hn
        have tk : ns.take (k + 1) = ns.take k ++ [n] := GS.take_get hn
        have new : n ∉ ((ns.take k).map fun n => ((n, Unj es ns n) : PN)).map (·.1) := fun c => by
          rw [List.map_map] at c
          obtain ⟨m, hm, e⟩ := List.mem_map.mp c
          have e : m = n := e
          subst e
          obtain ⟨j, hj⟩ := List.mem_iff_getElem?.mp hm
          have jl := (List.getElem?_eq_some_iff.mp hj).1
          rw [List.length_take] at jl
          rw [List.getElem?_take_of_lt (by omega)] at hj
          have := (List.getElem?_inj kl (GS.Asc.nodup hl.asc)).mp (hn.trans hj.symm)
          omega
        refine xg_name (by decide) (hb _ (by decide)) ?_
        try dsimp only [List.set]
        refine xt_yes <| if_tt <| xe_var rfl <| xe_ofO <| xr_call (fun _ => .nil) <| xa_cons <| xe_var rfl <| xa_cons <| xe_var rfl <| xa_cons <| xe_var rfl <| xa_nil ⟨es, d, ns, n, rfl, hd, ok.s, by omega, fun m hm => (ok.end' ((hl.mem m).mp hm)).2, (ok.end' ((hl.mem n).mp nm)).2, on_o ⟨_, rfl, .inr n, rfl, kp_none new, rfl, ?_⟩⟩
        rw [tk, List.map_append, List.map_append]
        rfl
      · rintro acc δ1 ⟨rfl, rfl⟩
        rw [List.length_map, List.take_length]
        exact ⟨_, rfl, xa_nil ⟨_, rfl, take_pss ok hl l7, fun os ns' k => on_d (fin os ns' (take_done hl k))⟩⟩
/-! ### edges without a ring -/
inductive Conn (es : List Ed) (x : Str) : Str → Prop
  | refl : Conn es x x
  | step {y z : Str} : Conn es x y → Jn es y z → Conn es x z
theorem Conn.trans {es : List Ed} {x y z : Str} (h : Conn es x y) (k : Conn es y z) : Conn es x z := by
  induction k with
  | refl => exact h
  | step _ j ih => exact ih.step j
theorem Conn.symm {es : List Ed} {x y : Str} (h : Conn es x y) : Conn es y x := by
  induction h with
  | refl => exact .refl
  | step _ j ih => exact (Conn.refl.step j.symm).trans ih
theorem Conn.mono {es fs : List Ed} (s : ∀ x y, Jn es x y → Jn fs x y) {x y : Str} (h : Conn es x y) : Conn fs x y := by
  induction h with
  | refl => exact .refl
  | step _ j ih => exact ih.step (s _ _ j)
theorem jn_snoc {es : List Ed} {a b x y : Str} : Jn (es ++ [(a, b)]) x y ↔ Jn es x y ∨ (x = a ∧ y = b) ∨ (x = b ∧ y = a) := by
  unfold Jn
  simp only [List.mem_append, List.mem_singleton, Prod.mk.injEq]
  constructor
  · rintro ((h | h) | (h | ⟨h, k⟩))
    · exact .inl (.inl h)
    · exact .inr (.inl h)
    · exact .inl (.inr h)
    · exact .inr (.inr ⟨k, h⟩)
  · rintro ((h | h) | h | ⟨h, k⟩)
    · exact .inl (.inl h)
    · exact .inr (.inl h)
    · exact .inl (.inr h)
    · exact .inr (.inr ⟨k, h⟩)
theorem conn_snoc {es : List Ed} {a b x y : Str} : Conn (es ++ [(a, b)]) x y ↔ Conn es x y ∨ (Conn es x a ∧ Conn es b y) ∨ (Conn es x b ∧ Conn es a y) := by
  constructor
  · intro h
    induction h with
    | refl => exact .inl .refl
    | step _ j ih =>
      rcases jn_snoc.mp j with j | ⟨rfl, rfl⟩ | ⟨rfl, rfl⟩
      · rcases ih with h | ⟨h, k⟩ | ⟨h, k⟩
        · exact .inl (h.step j)
        · exact .inr (.inl ⟨h, k.step j⟩)
        · exact .inr (.inr ⟨h, k.step j⟩)
      · rcases ih with h | ⟨h, k⟩ | ⟨h, k⟩
        · exact .inr (.inl ⟨h, .refl⟩)
        · exact .inr (.inl ⟨h, .refl⟩)
        · exact .inl h
      · rcases ih with h | ⟨h, k⟩ | ⟨h, k⟩
        · exact .inr (.inr ⟨h, .refl⟩)
        · exact .inl h
        · exact .inr (.inr ⟨h, .refl⟩)
  · have m : ∀ u v, Jn es u v → Jn (es ++ [(a, b)]) u v := fun u v j => jn_snoc.mpr (.inl j)
    have ab : Jn (es ++ [(a, b)]) a b := jn_snoc.mpr (.inr (.inl ⟨rfl, rfl⟩))
    rintro (h | ⟨h, k⟩ | ⟨h, k⟩)
    · exact h.mono m
    · exact ((h.mono m).step ab).trans (k.mono m)
    · exact ((h.mono m).step ab.symm).trans (k.mono m)
/-- no edge closes a ring with those ahead of it -/
def Acy (es : List Ed) : Prop := ∀ (i : Nat) x y, es[i]? = some (x, y) → ¬ Jn (es.take i) x y → ¬ Conn (es.take i) x y
/-- each has one beside it at most that stands lower -/
structure Low (es : List Ed) (rk : Str → Nat) : Prop where
  ne : ∀ x y, Jn es x y → rk x ≠ rk y
  one : ∀ x y z, Jn es x y → Jn es x z → rk y < rk x → rk z < rk x → y = z
inductive Desc (es : List Ed) (rk : Str → Nat) (x : Str) : Str → Prop
  | base : Desc es rk x x
  | up {z w : Str} : Desc es rk x z → Jn es z w → rk z < rk w → Desc es rk x w
theorem Desc.ge {es : List Ed} {rk : Str → Nat} {x z : Str} (h : Desc es rk x z) : rk x ≤ rk z := by
  induction h with
  | base => exact Nat.le_refl _
  | up _ _ l ih => omega
theorem desc_all {es : List Ed} {rk : Str → Nat} (low : Low es rk) {x : Str} (root : ∀ w, Jn es x w → ¬ rk w < rk x) {z : Str} (h : Conn es x z) : Desc es rk x z := by
  induction h with
  | refl => exact .base
  | @step y z _ j ih =>
    rcases Nat.lt_or_ge (rk y) (rk z) with l | l
    · exact .up ih j l
    · have l : rk z < rk y := Nat.lt_of_le_of_ne l (low.ne y z j).symm
      cases ih with
      | base => exact absurd l (root z j)
      | @up u _ d ju lu =>
        have : u = z := low.one y u z ju.symm j lu l
        exact this ▸ d
theorem jn_take {es : List Ed} {i : Nat} {x y : Str} (h : Jn (es.take i) x y) : Jn es x y := h.imp List.mem_of_mem_take List.mem_of_mem_take
theorem Low.take {es : List Ed} {rk : Str → Nat} (low : Low es rk) (i : Nat) : Low (es.take i) rk := ⟨fun x y j => low.ne x y (jn_take j), fun x y z j k => low.one x y z (jn_take j) (jn_take k)⟩
theorem Low.acy {es : List Ed} {rk : Str → Nat} (low : Low es rk) : Acy es := fun i x y he nj c => by
  have jxy : Jn es x y := .inl (List.mem_of_getElem? he)
  have key : ∀ u v, Jn es u v → ¬ Jn (es.take i) u v → Conn (es.take i) u v → rk v < rk u → False := fun u v j n c l => by
    have := (desc_all (low.take i) (x := u) (fun w jw lw => n ((low.one u v w j (jn_take jw) l lw) ▸ jw)) c).ge
    omega
  rcases Nat.lt_or_ge (rk y) (rk x) with l | l
  · exact key x y jxy nj c l
  · exact key y x jxy.symm (fun j => nj j.symm) c.symm (Nat.lt_of_le_of_ne l (low.ne x y jxy))
theorem Low.same {es fs : List Ed} {rk : Str → Nat} (low : Low es rk) (h : ∀ x y, Jn fs x y → Jn es x y) : Low fs rk := ⟨fun x y j => low.ne x y (h x y j), fun x y z j k => low.one x y z (h x y j) (h x z k)⟩
/-! ### marks -/
def mkE (p : Str × Str) : Key × D := (.inr p.1, .str p.2)
theorem mk_get {ms : List (Str × Str)} (nd : (ms.map (·.1)).Nodup) {p : Str × Str} (hp : p ∈ ms) : dget (ms.map mkE) (.inr p.1) = some (.str p.2) := by
  induction ms with
  | nil => cases hp
  | cons a ms ih =>
    obtain ⟨n1, n2⟩ := List.nodup_cons.mp nd
    rcases List.mem_cons.mp hp with rfl | h
    · simp [dget, mkE]
    · have ne : a.1 ≠ p.1 := fun e => n1 (List.mem_map.mpr ⟨p, h, e.symm⟩)
      have ih := ih n2 h
      unfold dget at ih ⊢
      rw [List.map_cons, List.find?_cons_of_neg]
      · exact ih
      · simpa [mkE] using ne
structure Mk0 (ns : List Str) (ms : List (Str × Str)) : Prop where
  nd : (ms.map (·.1)).Nodup
  is : ∀ x, x ∈ ms.map (·.1) ↔ x ∈ ns
  eq : ∀ p ∈ ms, p.2 = p.1
theorem Mk0.put {ns : List Str} {ms : List (Str × Str)} (h : Mk0 ns ms) (n : Str) : ∃ ms', dputD (ms.map mkE) (.inr n) (.str n) = ms'.map mkE ∧ Mk0 (ns ++ [n]) ms' := by
  have any : ((ms.map mkE).any fun kv => decide (kv.1 = .inr n)) = decide (n ∈ ms.map (·.1)) := by
    rw [Bool.eq_iff_iff, List.any_eq_true, decide_eq_true_eq]
    constructor
    · rintro ⟨kv, hkv, e⟩
      obtain ⟨p, hp, rfl⟩ := List.mem_map.mp hkv
      exact List.mem_map.mpr ⟨p, hp, Sum.inr.inj (of_decide_eq_true e)⟩
    · intro hm
      obtain ⟨p, hp, e⟩ := List.mem_map.mp hm
      exact ⟨mkE p, List.mem_map_of_mem hp, decide_eq_true (congrArg Sum.inr e)⟩
  unfold dputD
  rw [any]
  by_cases c : n ∈ ms.map (·.1)
  · rw [if_pos (decide_eq_true c)]
    refine ⟨ms, ?_, h.nd, fun x => ?_, h.eq⟩
    · rw [List.map_map]
      refine List.map_congr_left fun p hp => ?_
      show (if (mkE p).1 = .inr n then ((mkE p).1, D.str n) else mkE p) = mkE p
      split
      · rename_i e
        have e : p.1 = n := Sum.inr.inj e
        unfold mkE
        rw [h.eq p hp, e]
      · rfl
    · rw [h.is, List.mem_append, List.mem_singleton]
      exact ⟨.inl, fun z => z.elim id fun z => by rw [z]; exact (h.is n).mp c⟩
  · rw [if_neg (by simpa using c)]
    refine ⟨ms ++ [(n, n)], by rw [List.map_append]; rfl, ?_, fun x => ?_, fun p hp => ?_⟩
    · rw [List.map_append, List.nodup_append]
      refine ⟨h.nd, by simp, fun x hx y hy e => ?_⟩
      rw [List.mem_singleton.mp hy] at e
      have e : x = n := e
      exact c (e ▸ hx)
    · rw [List.map_append, List.mem_append, h.is, List.mem_append]
      simp
    · rcases List.mem_append.mp hp with z | z
      · exact h.eq p z
      · rw [List.mem_singleton.mp z]
structure MkI (es : List Ed) (i : Nat) (ms : List (Str × Str)) : Prop where
  nd : (ms.map (·.1)).Nodup
  is : ∀ x, x ∈ ms.map (·.1) ↔ x ∈ ends es
  eq : ∀ p ∈ ms, ∀ q ∈ ms, p.2 = q.2 ↔ Conn (es.take i) p.1 q.1
theorem conn_nil {a b : Str} (h : Conn [] a b) : a = b := by
  induction h with
  | refl => rfl
  | step _ j => rcases j with j | j <;> simp at j
theorem Mk0.start {es : List Ed} {ms : List (Str × Str)} (h : Mk0 (ends es) ms) : MkI es 0 ms := ⟨h.nd, h.is, fun p hp q hq => by
  rw [h.eq p hp, h.eq q hq]
  constructor
  · intro e; rw [e]; exact .refl
  · intro c
    exact conn_nil (by simpa using c)⟩
theorem conn_same {es : List Ed} {i : Nat} {a b : Str} (he : es[i]? = some (a, b)) (j : Jn (es.take i) a b) {x y : Str} : Conn (es.take (i + 1)) x y ↔ Conn (es.take i) x y := by
  rw [show es.take (i + 1) = es.take i ++ [(a, b)] from GS.take_get he]
  refine ⟨Conn.mono fun u v k => ?_, Conn.mono fun u v k => jn_snoc.mpr (.inl k)⟩
  rcases jn_snoc.mp k with k | ⟨rfl, rfl⟩ | ⟨rfl, rfl⟩
  · exact k
  · exact j
  · exact j.symm
theorem MkI.keep {es : List Ed} {i : Nat} {ms : List (Str × Str)} (h : MkI es i ms) {a b : Str} (he : es[i]? = some (a, b)) (j : Jn (es.take i) a b) : MkI es (i + 1) ms := ⟨h.nd, h.is, fun p hp q hq => by rw [h.eq p hp q hq, conn_same he j]⟩
def remark (kept lost : Str) (p : Str × Str) : Str × Str := (p.1, if p.2 = lost then kept else p.2)
theorem MkI.join {es : List Ed} {i : Nat} {ms : List (Str × Str)} (h : MkI es i ms) {a b u v : Str} (he : es[i]? = some (a, b)) (ha : (a, u) ∈ ms) (hb : (b, v) ∈ ms) : MkI es (i + 1) (ms.map (remark u v)) := by
  have keys : (ms.map (remark u v)).map (·.1) = ms.map (·.1) := by rw [List.map_map]; rfl
  refine ⟨by rw [keys]; exact h.nd, fun x => by rw [keys]; exact h.is x, fun p' hp' q' hq' => ?_⟩
  obtain ⟨p, hp, rfl⟩ := List.mem_map.mp hp'
  obtain ⟨q, hq, rfl⟩ := List.mem_map.mp hq'
  rw [show es.take (i + 1) = es.take i ++ [(a, b)] from GS.take_get he, conn_snoc]
  show (if p.2 = v then u else p.2) = (if q.2 = v then u else q.2) ↔ Conn (es.take i) p.1 q.1 ∨ (Conn (es.take i) p.1 a ∧ Conn (es.take i) b q.1) ∨ (Conn (es.take i) p.1 b ∧ Conn (es.take i) a q.1)
  rw [← h.eq p hp q hq, ← h.eq p hp _ ha, ← h.eq _ hb q hq, ← h.eq p hp _ hb, ← h.eq _ ha q hq]
  show (if p.2 = v then u else p.2) = (if q.2 = v then u else q.2) ↔ p.2 = q.2 ∨ (p.2 = u ∧ v = q.2) ∨ (p.2 = v ∧ u = q.2)
  by_cases c1 : p.2 = v
  · by_cases c2 : q.2 = v
    · simp [c1, c2]
    · rw [if_pos c1, if_neg c2]
      constructor
      · intro e; exact .inr (.inr ⟨c1, e⟩)
      · rintro (e | ⟨e, k⟩ | ⟨_, e⟩)
        · exact absurd (e.symm.trans c1) c2
        · exact absurd k.symm c2
        · exact e
  · by_cases c2 : q.2 = v
    · rw [if_neg c1, if_pos c2]
      constructor
      · intro e; exact .inr (.inl ⟨e, c2.symm⟩)
      · rintro (e | ⟨e, _⟩ | ⟨e, _⟩)
        · exact absurd (e.trans c2) c1
        · exact e
        · exact absurd e c1
    · rw [if_neg c1, if_neg c2]
      constructor
      · intro e; exact .inl e
      · rintro (e | ⟨_, e⟩ | ⟨e, _⟩)
        · exact e
        · exact absurd e.symm c2
        · exact absurd e c1
/-! ### the first edge that closes a ring -/
theorem mk_none {ms : List (Str × Str)} {x : Str} (h : x ∉ ms.map (·.1)) : dget (ms.map mkE) (.inr x) = none := by
  unfold dget
  rw [List.find?_eq_none.mpr]
  · rfl
  · intro kv hkv
    obtain ⟨e, he, rfl⟩ := List.mem_map.mp hkv
    have : e.1 ≠ x := fun z => h (List.mem_map.mpr ⟨e, he, z⟩)
    simpa [mkE] using this
theorem ends_len (xs : List Ed) : (ends xs).length = 2 * xs.length := by
  induction xs with
  | nil => rfl
  | cons x xs ih => unfold ends at ih ⊢; rw [List.flatMap_cons, List.length_append, ih]; simp; omega
def F_ring_at : FR := fun ds Φ => ∃ (es : List Ed) (d : D), ds = [d] ∧ EdsD d es ∧ EdsOk es ∧ Acy es ∧ Φ (.d .non)
theorem ok_ring_at (T : Txt K mg a) (G_are_joined : FnOk P w K mg base CX0 1 a.f_are_joined a.fd_are_joined ["edges", "one", "other"] (spR (ZZ K a) F_are_joined)) : FnOk P w K mg base CX0 2 a.f_ring_at a.fd_ring_at ["edges"] (spR (ZZ K a) F_ring_at) := by
  refine T.F_ring_at.ok sc_ring_at (fun vs H Q E h => ?_) (fun cdv A outer s H vs Q E hr h => ?_)
  · obtain ⟨M, ds, Φ, _, al, ⟨es, d, rfl, _⟩, _⟩ := h
    exact al.len
  · obtain ⟨M, ds, Φ, ex, al, ⟨es, d, rfl, hd, ok, acy, fin⟩, q⟩ := h
    refine ⟨_, (pss_cons (GX.ps_setDc2L (i := 1) (own := [("edge", 7), ("name", 8)]) (vs1 := [8]) (g := (gName 7)) (g1 := (gName 8)) rfl sc_ring_at.nd rfl rfl (GX.swD_true rfl rfl rfl (by decide +kernel)) (G.pi_or (pi_list (pv 0)) (pi_tupK (K := K) rfl (pv 0))) (blkOk_by (N := N_ring_at) (sc := defScope s_ring_at) (by decide +kernel)) (by decide) (fun _ _ _ _ _ => (pg_name (i := 7) sc_ring_at.nd rfl (Or.inl rfl))) (fun _ _ _ _ _ => (pi_tupK (K := K) rfl (pv 7))) (fun _ _ _ _ _ => (pg_name (i := 8) sc_ring_at.nd rfl (Or.inl rfl))) (fun _ _ _ _ _ => (pv 8)) (fun _ _ _ _ _ => (pv 8)))
      (pss_cons (ps_for PassesOwn.never rfl (G.pi_or (pi_enum (by rfl) T.n_enumerate (pa_cons (pv 0) pa_nil)) (GE.pi_enumT (by rfl) T.n_enumerate (pa_cons (pv 0) pa_nil))) (pg_tup rfl (pgs_cons (pg_name (i := 2) sc_ring_at.nd rfl (Or.inl rfl)) (pgs_cons (pg_tup rfl (pgs_cons (pg_name (i := 3) sc_ring_at.nd rfl (Or.inl rfl)) (pgs_cons (pg_name (i := 4) sc_ring_at.nd rfl (Or.inl rfl)) pgs_nil))) pgs_nil)))
      (pss_one (ps_if (pt_not (pt_val (pe_call G_are_joined (hr.mono (by decide)) (by rfl) T.m_are_joined T.F_are_joined.kp T.b_are_joined .nil pass0 (pa_cons (pe_slice (show SlR _ (GR.rSlS K) from GR.sl_seq) (pv 0) po_none (po_some (pv 2))) (pa_cons (pv 3) (pa_cons (pv 4) pa_nil)))))) (pss_cons (ps_asg (pe_tup (pa_cons (pe_dget (units1 hr) (pv 1) (pv 3) (fun _ _ => rfl)) (pa_cons (pe_dget (units1 hr) (pv 1) (pv 4) (fun _ _ => rfl)) pa_nil))) (pg_tup rfl (pgs_cons (pg_name (i := 5) sc_ring_at.nd rfl (Or.inr rfl)) (pgs_cons (pg_name (i := 6) sc_ring_at.nd rfl (Or.inr rfl)) pgs_nil))))
      (pss_cons (ps_if (pt_cmpR op_eq (pv 5) (pv 6) (nomark _)) (pss_one (ps_ret (pv 2))) pss_nil)
      (pss_one (GX.ps_setDcL (i := 1) (own := [("name", 8), ("mark", 9)]) (g := (gTup K 2 (gCons (gName 8) (gCons (gName 9) gNil)))) (tt := tYes) rfl sc_ring_at.nd rfl rfl (GX.swD_true rfl rfl rfl (by decide +kernel)) (pi_items (pv 1)) (blkOk_by (N := N_ring_at) (sc := defScope s_ring_at) (by decide +kernel)) (fun _ _ _ _ _ => (pg_tup rfl (pgs_cons (pg_name (i := 8) sc_ring_at.nd rfl (Or.inl rfl)) (pgs_cons (pg_name (i := 9) sc_ring_at.nd rfl (Or.inl rfl)) pgs_nil)))) (fun _ _ _ _ _ => pts_nil) (fun _ _ _ _ _ => (pv 8)) (fun _ _ _ _ _ => (pe_ifExp (pt_cmpR op_eq (pv 9) (pv 6) (nomark _)) (pv 5) (pv 9))))))) pss_nil)))
      (pss_one (ps_ret pe_non)))), entR (n := 9) ex al rfl q ?_⟩
    walk_at "ent"
    have l100 := ok.l
    refine xs_seq <| xs_set (by decide) <| xe_lk <| xo_dc2 (vs := [7, 8]) (vs1 := [8]) <| xi_seqV rfl hd ⟨fun v hv => by simp at hv; rcases hv with rfl | rfl <;> rfl, by simp; omega, fun i acc δ => δ = [.d d, .no, .no, .no, .no, .no, .no, .no, .no, .no] ∧ ∃ ms, acc = ms.map mkE ∧ Mk0 (ends (es.take i)) ms, ⟨rfl, [], rfl, by simp, by simp [ends], by simp⟩, ?_, ?_⟩
    · rintro i x acc δ1 bs hb hi ⟨rfl, ms, rfl, inv⟩
      obtain ⟨e, he, rfl⟩ : ∃ e, es[i]? = some e ∧ edD e = x := by rw [List.getElem?_map] at hi; exact Option.map_eq_some_iff.mp hi
      refine xg_name (by decide) (hb _ (by decide)) ?_
      try dsimp only [List.set]
      refine xi_tup <| xe_var rfl ⟨_, rfl, by simp, fun v hv => by simp at hv; subst hv; rfl, fun j acc δ => δ = [.d d, .no, .no, .no, .no, .no, .no, .d (edD e), .no, .no] ∧ ∃ ms, acc = ms.map mkE ∧ Mk0 (ends (es.take i) ++ [e.1, e.2].take j) ms, ⟨rfl, ms, rfl, by simpa using inv⟩, ?_, ?_⟩
      · rintro j x acc δ5 bs5 hb5 hj ⟨rfl, ms, rfl, inv⟩
        obtain ⟨v, hv, rfl⟩ : ∃ v, [e.1, e.2][j]? = some v ∧ D.str v = x := by rw [show [D.str e.1, D.str e.2] = [e.1, e.2].map .str from rfl, List.getElem?_map] at hj; exact Option.map_eq_some_iff.mp hj
        refine xg_name (by decide) (hb5 _ (by decide)) ?_
        try dsimp only [List.set]
        obtain ⟨ms', e1, inv'⟩ := inv.put v
        refine xe_var rfl <| xe_var rfl ⟨.inr v, rfl, rfl, ms', e1, ?_⟩
        rw [show [e.1, e.2].take (j + 1) = [e.1, e.2].take j ++ [v] from GS.take_get hv, ← List.append_assoc]
        exact inv'
      · rintro acc δ5 ⟨rfl, ms, rfl, inv⟩
        refine ⟨rfl, ms, rfl, ?_⟩
        unfold ends at inv ⊢
        rw [flat_take he]
        exact inv
    rintro acc δ1 ⟨rfl, ms, rfl, inv⟩
    rw [List.length_map, List.take_length] at inv
    refine ⟨_, rfl, ?_⟩
    try dsimp only [List.set]
    refine xs_seq <| xs_for (vs := [2, 3, 4]) <| xi_enumV (d := d) (xs := es.map edD) rfl hd ⟨fun i δ => ∃ (ms : List (Str × Str)) (s2 s3 s4 s5 s6 : S), δ = [.d d, .d (.dicF ((ms.map mkE).map (·.1)) ((ms.map mkE).map (·.2))), s2, s3, s4, s5, s6, .no, .no, .no] ∧ MkI es i ms, ⟨ms, _, _, _, _, _, rfl, inv.start⟩, ?_, ?_⟩
    · rintro i x δ1 hi ⟨ms, s2, s3, s4, s5, s6, rfl, inv⟩
      obtain ⟨y, hy, rfl⟩ := enumD_at hi
      obtain ⟨e, he, rfl⟩ : ∃ e, es[i]? = some e ∧ edD e = y := by rw [List.getElem?_map] at hy; exact Option.map_eq_some_iff.mp hy
      have em := List.mem_of_getElem? he
      have sok := ok.s e em
      have le := (List.getElem?_eq_some_iff.mp he).1
      have ml : ms.length ≤ 200 := by
        have := inv.nd.length_le_of_subset fun x hx => (inv.is x).mp hx
        rw [List.length_map, ends_len] at this
        omega
      refine xg_tup (xs := [.int i, edD e]) rfl <| xgs_cons <| xg_name (by decide) (by decide) <| xgs_cons <| xg_tup (xs := [.str e.1, .str e.2]) rfl <| xgs_cons <| xg_name (by decide) (by decide) <| xgs_cons <| xg_name (by decide) (by decide) <| xgs_nil <| xgs_nil ?_
      try dsimp only [List.set]
      obtain ⟨dd, hcut, hdd⟩ : ∃ dd, cutD d none (some (i : Int)) = some dd ∧ EdsD dd (es.take i) := by
        have := cut_to (xs := es.map edD) (Int.natCast_nonneg i)
        rw [Int.toNat_natCast, ← List.map_take] at this
        rcases hd with rfl | rfl
        · exact ⟨_, by show some (D.lst (cut (es.map edD) none (some (i : Int)))) = _; rw [this], .inl rfl⟩
        · exact ⟨_, by show some (D.tup (cut (es.map edD) none (some (i : Int)))) = _; rw [this], .inr rfl⟩
      refine xs_if <| xt_not <| xt_test <| xr_call (fun _ => .nil) <| xa_cons <| xe_slS <| xe_var rfl <| xp_no <| xp_part <| xe_var rfl ⟨_, rfl, dd, hcut, xa_cons <| xe_var rfl <| xa_cons <| xe_var rfl <| xa_nil ⟨es.take i, dd, e.1, e.2, rfl, hdd, fun x hx => ok.s x (List.mem_of_mem_take hx), sok.1, sok.2, on_d ⟨_, rfl, ?_⟩⟩⟩
      by_cases jn : Jn (es.take i) e.1 e.2
      · rw [decide_eq_true jn]
        exact if_nt <| xs_next ⟨ms, _, _, _, _, _, rfl, inv.keep he jn⟩
      · rw [decide_eq_false jn]
        obtain ⟨⟨a1, u⟩, ha, e1⟩ := List.mem_map.mp ((inv.is e.1).mpr (mem_ends.mpr ⟨e, em, .inl rfl⟩))
        obtain ⟨⟨b1, v⟩, hb, e2⟩ := List.mem_map.mp ((inv.is e.2).mpr (mem_ends.mpr ⟨e, em, .inr rfl⟩))
        obtain rfl : a1 = e.1 := e1
        obtain rfl : b1 = e.2 := e2
        have uv : u ≠ v := fun z => acy i e.1 e.2 he jn ((inv.eq _ ha _ hb).mp z)
        refine if_nf <| xs_seq <| xs_asg (vs := [5, 6]) <| xe_tup <| xa_cons <| xe_dgetF <| xe_var rfl <| xe_var rfl ⟨ms.map mkE, .inr e.1, _, rfl, rfl, mk_get (p := (e.1, u)) inv.nd ha, xa_cons <| xe_dgetF <| xe_var rfl <| xe_var rfl ⟨ms.map mkE, .inr e.2, _, rfl, rfl, mk_get (p := (e.2, v)) inv.nd hb, xa_nil ⟨by simp, xg_tup rfl <| xgs_cons <| xg_name (by decide) (by decide) <| xgs_cons <| xg_name (by decide) (by decide) <| xgs_nil ?_⟩⟩⟩
        try dsimp only [List.set]
        refine xs_seq <| xs_if <| xt_test <| xe_eq <| xe_var rfl <| xe_var rfl ⟨_, _, rfl, rfl, rfl, _, rfl, ?_⟩
        rw [decide_eq_false fun z => uv (V.str.inj z)]
        refine if_ff <| xs_next ?_
        refine xs_set (by decide) <| xe_lk <| xo_dc (vs := [8, 9]) <| xi_itemsF <| xe_var rfl ⟨ms.map mkE, rfl, fun v hv => by simp at hv; rcases hv with rfl | rfl <;> rfl, by rw [List.length_map, List.length_map]; omega, fun k acc δ => δ = [.d d, .d (.dicF ((ms.map mkE).map (·.1)) ((ms.map mkE).map (·.2))), .d (.int i), .d (.str e.1), .d (.str e.2), .d (.str u), .d (.str v), .no, .no, .no] ∧ acc = ((ms.take k).map (remark u v)).map mkE, ⟨rfl, rfl⟩, ?_, ?_⟩
        · rintro k x acc δ5 bs5 hb5 hk ⟨rfl, rfl⟩
          obtain ⟨p, hp, rfl⟩ : ∃ p, ms[k]? = some p ∧ D.tup [.str p.1, .str p.2] = x := by
            rw [List.map_map, List.getElem?_map] at hk
            exact Option.map_eq_some_iff.mp hk
          have kl := (List.getElem?_eq_some_iff.mp hp).1
          have tk : ms.take (k + 1) = ms.take k ++ [p] := GS.take_get hp
          refine xg_tup (xs := [.str p.1, .str p.2]) rfl <| xgs_cons <| xg_name (by decide) (hb5 _ (by decide)) <| xgs_cons <| xg_name (by decide) (hb5 _ (by decide)) <| xgs_nil ?_
          try dsimp only [List.set]
          have new : p.1 ∉ ((ms.take k).map (remark u v)).map (·.1) := fun c => by
            rw [List.map_map] at c
            obtain ⟨r, hr, e⟩ := List.mem_map.mp c
            have e : r.1 = p.1 := e
            obtain ⟨j, hj⟩ := List.mem_iff_getElem?.mp hr
            have jl := (List.getElem?_eq_some_iff.mp hj).1
            rw [List.length_take] at jl
            rw [List.getElem?_take_of_lt (by omega)] at hj
            have := (List.getElem?_inj (by rw [List.length_map]; exact kl) inv.nd (j := j)).mp (by rw [List.getElem?_map, List.getElem?_map, hp, hj]; exact congrArg some e.symm)
            omega
          refine xt_yes <| if_tt <| xe_var rfl <| xr_if <| xt_test <| xe_eq <| xe_var rfl <| xe_var rfl ⟨_, _, rfl, rfl, rfl, _, rfl, ?_⟩
          by_cases c : p.2 = v
          · rw [decide_eq_true (by rw [c])]
            refine if_tt <| xe_var rfl ⟨.inr p.1, rfl, mk_none new, rfl, ?_⟩
            rw [tk, List.map_append, List.map_append]
            unfold remark mkE
            simp [c]
          · rw [decide_eq_false fun z => c (V.str.inj z)]
            refine if_ff <| xe_var rfl ⟨.inr p.1, rfl, mk_none new, rfl, ?_⟩
            rw [tk, List.map_append, List.map_append]
            unfold remark mkE
            simp [c]
        · rintro acc δ5 ⟨rfl, rfl⟩
          rw [List.length_map, List.length_map, List.take_length]
          exact ⟨_, rfl, ms.map (remark u v), _, _, _, _, _, rfl, inv.join he ha hb⟩
    · rintro δ1 ⟨ms, s2, s3, s4, s5, s6, rfl, inv⟩
      exact xs_ret <| xe_non fin
/-! ### trees -/
def F_treeX : FRX := fun ds Φ _ => ∃ (es : List Ed) (d : D), ds = [d] ∧ EdsD d es ∧ EdsOk es ∧ Acy es ∧ (∀ ns, GS.IsLot ns (ends es) → ns.length ≤ 7) ∧ ∀ os ns, TakeR es os ns → Φ (.d (roomF os ns))
def F_tree : FR := fun ds Φ => ∃ (es : List Ed) (d : D), ds = [d] ∧ EdsD d es ∧ EdsOk es ∧ Acy es ∧ (∀ ns, GS.IsLot ns (ends es) → ns.length ≤ 7) ∧ ∀ os ns, TakeR es os ns → Φ (.d (roomF os ns))
theorem ok_treeX (T : Txt K mg a) (G_check_edges : FnOk P w K mg base CX0 4 a.f_check_edges a.fd_check_edges ["edges"] (spR (ZZ K a) F_check_edges)) (G_ring_at : FnOk P w K mg base CX0 2 a.f_ring_at a.fd_ring_at ["edges"] (spR (ZZ K a) F_ring_at)) (G_taken_down : FnOk P w K mg base CX0 6 a.f_taken_down a.fd_taken_down ["edges"] (spR (ZZ K a) F_taken)) : FnOk P w K mg base (L2.CX P w) 7 a.f_tree a.fd_tree ["edges"] (spRX (ZZ K a) F_treeX) := by
  refine T.F_tree.okX sc_tree (fun vs H Q E h => ?_) (fun cdv A outer s H vs Q E hr h => ?_)
  · obtain ⟨M, ds, Φ, Ξ, _, al, ⟨es, d, rfl, _⟩, _⟩ := h
    exact al.len
  · obtain ⟨M, ds, Φ, Ξ, ex, al, ⟨es, d, rfl, hd, ok, acy, few, fin⟩, q, qx⟩ := h
    refine ⟨_, (pss_cons (ps_expr (pe_call G_check_edges (hr.mono (by decide)) (by rfl) T.m_check_edges T.F_check_edges.kp T.b_check_edges .nil pass0 (pa_cons (pv 0) pa_nil)))
      (pss_cons (ps_set (i := 1) sc_tree.nd rfl (Or.inl rfl) (pe_call G_ring_at (hr.mono (by decide)) (by rfl) T.m_ring_at T.F_ring_at.kp T.b_ring_at .nil pass0 (pa_cons (pv 0) pa_nil)))
      (pss_cons (ps_if (pt_cmpR GS.op_notX (pv 1) pe_non (nomark _)) (pss_one (GX.ps_raiseO rfl (takes_of rfl rfl rfl rfl) T.oe_InvalidDrawing T.ei_InvalidDrawing T.et_InvalidDrawing (ok_InvalidDrawing_init T) (hr.mono (by decide)) T.b_InvalidDrawing_init (by rfl) T.m_InvalidDrawing (pa_cons (pv 1) pa_nil))) pss_nil)
      (pss_one (ps_ret (pe_call G_taken_down (hr.mono (by decide)) (by rfl) T.m_taken_down T.F_taken_down.kp T.b_taken_down .nil pass0 (pa_cons (pv 0) pa_nil))))))), entRX (n := 1) ex al rfl q ?_⟩
    walk_at "ent"
    refine xs_seq <| xs_drop <| xr_call (fun _ => .nil) <| xa_cons <| xe_var rfl <| xa_nil ⟨es, d, rfl, hd, ok, on_d ?_⟩
    refine xs_seq <| xs_set (by decide) <| xr_call (fun _ => .nil) <| xa_cons <| xe_var rfl <| xa_nil ⟨es, d, rfl, hd, ok, acy, on_d ?_⟩
    try dsimp only [List.set]
    refine xs_seq <| xs_if <| xt_test <| xe_notN <| xe_var rfl ⟨_, rfl, if_ff <| xs_next ?_⟩
    exact xs_ret <| xr_call (fun _ => .nil) <| xa_cons <| xe_var rfl <| xa_nil ⟨es, d, rfl, hd, ok, few, fun os ns k => on_d (fin os ns k)⟩
theorem ok_tree {ps : List Str} (h : FnOk P w K mg base (L2.CX P w) 7 a.f_tree a.fd_tree ps (spRX (ZZ K a) F_treeX)) : FnOk P w K mg base CX0 7 a.f_tree a.fd_tree ps (spR (ZZ K a) F_tree) := calmR h fun ds Φ ⟨es, d, e, hd, ok, acy, few, fin⟩ => ⟨es, d, e, hd, ok, acy, few, fin⟩
/-! ### how many orders there are from a lot on -/
def keyT (l : List Str) : List Key := l.map .inr
theorem keyT_inj {l m : List Str} (h : keyT l = keyT m) : l = m := List.map_inj_right (fun _ _ e => Sum.inr.inj e) |>.mp h
theorem asc_count : ∀ (u : List Str) {ls : List (List Str)}, ls.Nodup → (∀ l ∈ ls, GS.Asc l ∧ ∀ x ∈ l, x ∈ u) → ls.length ≤ 2 ^ u.length
  | [], ls, nd, h => by
    have e : ∀ l ∈ ls, l = [] := fun l hl => List.eq_nil_iff_forall_not_mem.mpr fun x hx => by simpa using (h l hl).2 x hx
    match ls, nd, e with
    | [], _, _ => simp
    | [_], _, _ => simp
    | a :: b :: ls, nd, e =>
      have e1 := e a (by simp)
      have e2 := e b (by simp)
      subst e1; subst e2
      simp at nd
  | x :: u, ls, nd, h => by
    have s1 : (ls.filter fun l => decide (x ∈ l)).length ≤ 2 ^ u.length := by
      have := asc_count u (ls := (ls.filter fun l => decide (x ∈ l)).map fun l => l.erase x) ?_ ?_
      · simpa using this
      · refine List.pairwise_map.mpr (List.Pairwise.imp_of_mem (fun {a b} ha hb hab e => hab ?_) (nd.filter _))
        obtain ⟨a1, a2⟩ := List.mem_filter.mp ha
        obtain ⟨b1, b2⟩ := List.mem_filter.mp hb
        refine GS.Asc.uniq (h a a1).1 (h b b1).1 fun z => ?_
        have ha2 : x ∈ a := of_decide_eq_true a2
        have hb2 : x ∈ b := of_decide_eq_true b2
        by_cases c : z = x
        · subst c; simp [ha2, hb2]
        · rw [← List.mem_erase_of_ne c, e, List.mem_erase_of_ne c]
      · intro l hl
        obtain ⟨m, hm, rfl⟩ := List.mem_map.mp hl
        obtain ⟨m1, m2⟩ := List.mem_filter.mp hm
        refine ⟨(h m m1).1.sublist List.erase_sublist, fun y hy => ?_⟩
        have hy2 := List.mem_of_mem_erase hy
        rcases List.mem_cons.mp ((h m m1).2 y hy2) with q | q
        · subst q
          exact absurd hy (by rw [(GS.Asc.nodup (h m m1).1).mem_erase_iff]; simp)
        · exact q
    have s2 : (ls.filter fun l => !decide (x ∈ l)).length ≤ 2 ^ u.length := by
      refine asc_count u (nd.filter _) fun l hl => ?_
      obtain ⟨l1, l2⟩ := List.mem_filter.mp hl
      refine ⟨(h l l1).1, fun y hy => ?_⟩
      rcases List.mem_cons.mp ((h l l1).2 y hy) with q | q
      · subst q
        simp [hy] at l2
      · exact q
    have e : ls.length = (ls.filter fun l => decide (x ∈ l)).length + (ls.filter fun l => !decide (x ∈ l)).length := by
      clear nd h s1 s2
      induction ls with
      | nil => rfl
      | cons a ls ih =>
        simp only [List.filter_cons, List.length_cons]
        by_cases c : x ∈ a
        · simp [c]; omega
        · simp [c]; omega
    rw [List.length_cons, Nat.pow_succ]
    omega
/-! ### lots that a walk finds: known ones, waiting ones -/
def StepsF (Fr : List Str → Str → Prop) (o : List Str) : Prop := ∀ (i : Nat) (x : Str), o[i]? = some x → Fr (o.take i) x
structure FrOk (Fr : List Str → Str → Prop) (ns : List Str) : Prop where
  same : ∀ l m x, (∀ y, y ∈ l ↔ y ∈ m) → Fr l x → Fr m x
  new : ∀ l x, Fr l x → x ∉ l
  nm : ∀ l x, Fr l x → x ∈ ns
theorem StepsF.nil {Fr : List Str → Str → Prop} : StepsF Fr [] := fun i x h => by simp at h
theorem StepsF.snoc {Fr : List Str → Str → Prop} {o : List Str} {x : Str} (h : StepsF Fr o) (hx : Fr o x) : StepsF Fr (o ++ [x]) := fun i y hy => by
  by_cases c : i < o.length
  · rw [List.getElem?_append_left c] at hy
    rw [List.take_append_of_le_length (Nat.le_of_lt c)]
    exact h i y hy
  · rw [List.getElem?_append_right (by omega)] at hy
    have e : i - o.length = 0 := by
      have := (List.getElem?_eq_some_iff.mp hy).1
      simp at this; omega
    rw [e] at hy
    cases hy
    have e2 : i = o.length := by omega
    subst e2
    rw [List.take_left]
    exact hx
structure DL (Fr : List Str → Str → Prop) (ls ws : List (List Str)) : Prop where
  nd : ls.Nodup
  asc : ∀ l ∈ ls ++ ws, GS.Asc l
  run : ∀ l ∈ ls ++ ws, ∃ m, StepsF Fr m ∧ ∀ x, x ∈ l ↔ x ∈ m
  nil : [] ∈ ls ++ ws
  cl : ∀ l ∈ ls, ∀ x, Fr l x → ∃ l' ∈ ls ++ ws, ∀ y, y ∈ l' ↔ y ∈ l ∨ y = x
variable {Fr : List Str → Str → Prop} {ls ws : List (List Str)} {nms : List Str}
theorem DL.start : DL Fr [] [[]] := ⟨.nil, fun l hl => by rw [List.mem_singleton.mp hl]; exact .nil, fun l hl => by rw [List.mem_singleton.mp hl]; exact ⟨[], .nil, fun _ => Iff.rfl⟩, by simp, fun l hl => by cases hl⟩
theorem DL.small (ok : FrOk Fr nms) (h : DL Fr ls ws) (l7 : nms.length ≤ 7) : ls.length ≤ 128 := by
  have := asc_count nms h.nd fun l hl => ⟨h.asc l (List.mem_append_left _ hl), fun x hx => by
    obtain ⟨m, sm, e⟩ := h.run l (List.mem_append_left _ hl)
    obtain ⟨i, hi⟩ := List.mem_iff_getElem?.mp ((e x).mp hx)
    exact ok.nm _ _ (sm i x hi)⟩
  exact Nat.le_trans this (Nat.pow_le_pow_right (by decide) l7 : 2 ^ nms.length ≤ 2 ^ 7)
theorem DL.len7 (ok : FrOk Fr nms) (h : DL Fr ls ws) (l7 : nms.length ≤ 7) : ∀ l ∈ ls ++ ws, l.length ≤ 7 := fun l hl => by
  refine Nat.le_trans (nodup_len (GS.Asc.nodup (h.asc l hl)) (ss := nms) fun x hx => ?_) l7
  obtain ⟨m, sm, e⟩ := h.run l hl
  obtain ⟨i, hi⟩ := List.mem_iff_getElem?.mp ((e x).mp hx)
  exact ok.nm _ _ (sm i x hi)
/-- one that is known already -/
theorem DL.old {l : List Str} (h : DL Fr ls (ws ++ [l])) (k : l ∈ ls) : DL Fr ls ws := by
  have sub : ∀ {x}, x ∈ ls ++ ws → x ∈ ls ++ (ws ++ [l]) := fun {x} hx => by
    rw [← List.append_assoc]; exact List.mem_append_left _ hx
  have back : ∀ {x}, x ∈ ls ++ (ws ++ [l]) → x ∈ ls ++ ws := fun {x} hx => by
    rw [← List.append_assoc] at hx
    rcases List.mem_append.mp hx with z | z
    · exact z
    · rw [List.mem_singleton.mp z]; exact List.mem_append_left _ k
  exact ⟨h.nd, fun x hx => h.asc x (sub hx), fun x hx => h.run x (sub hx), back h.nil, fun l' hl x hx => by
    obtain ⟨m, hm, e⟩ := h.cl l' hl x hx
    exact ⟨m, back hm, e⟩⟩
/-- a new one, with those behind it -/
theorem DL.new {l : List Str} {xs : List Str} {ms : List (List Str)} (ok : FrOk Fr nms) (h : DL Fr ls (ws ++ [l])) (k : l ∉ ls) (hx : ∀ x, x ∈ xs ↔ Fr l x) (hm : ms.length = xs.length) (hl : ∀ (i : Nat) x m, xs[i]? = some x → ms[i]? = some m → GS.IsLot m (l ++ [x])) : DL Fr (ls ++ [l]) (ws ++ ms) := by
  have sub : ∀ {x}, x ∈ ls ++ (ws ++ [l]) → x ∈ (ls ++ [l]) ++ (ws ++ ms) := fun {x} hx => by
    simp only [List.mem_append, List.mem_singleton] at hx ⊢
    rcases hx with z | z | z
    · exact .inl (.inl z)
    · exact .inr (.inl z)
    · exact .inl (.inr z)
  have lin : l ∈ ls ++ (ws ++ [l]) := by simp
  have getx : ∀ m ∈ ms, ∃ x, Fr l x ∧ GS.IsLot m (l ++ [x]) := fun m hmm => by
    obtain ⟨i, hi⟩ := List.mem_iff_getElem?.mp hmm
    have il := (List.getElem?_eq_some_iff.mp hi).1
    obtain ⟨x, hxi⟩ : ∃ x, xs[i]? = some x := ⟨xs[i]'(hm ▸ il), by simp [hm ▸ il]⟩
    exact ⟨x, (hx x).mp (List.mem_of_getElem? hxi), hl i x m hxi hi⟩
  have split : ∀ x, x ∈ (ls ++ [l]) ++ (ws ++ ms) → x ∈ ls ++ (ws ++ [l]) ∨ x ∈ ms := fun x hx => by
    simp only [List.mem_append, List.mem_singleton] at hx ⊢
    rcases hx with (z | z) | z | z
    · exact .inl (.inl z)
    · exact .inl (.inr (.inr z))
    · exact .inl (.inr (.inl z))
    · exact .inr z
  refine ⟨List.nodup_append.mpr ⟨h.nd, by simp, fun y hy z hz e => k (by rw [List.mem_singleton.mp hz] at e; exact e ▸ hy)⟩, fun x hx => ?_, fun x hx => ?_, sub h.nil, fun l' hl' x hx' => ?_⟩
  · rcases split x hx with z | z
    · exact h.asc x z
    · obtain ⟨_, _, q⟩ := getx x z; exact q.asc
  · rcases split x hx with z | z
    · exact h.run x z
    · obtain ⟨y, fy, q⟩ := getx x z
      obtain ⟨m, sm, e⟩ := h.run l lin
      refine ⟨m ++ [y], sm.snoc (ok.same _ _ _ e fy), fun u => ?_⟩
      rw [q.mem, List.mem_append, List.mem_append, e u]
  · rcases List.mem_append.mp hl' with z | z
    · obtain ⟨m, hm', e⟩ := h.cl l' z x hx'
      exact ⟨m, sub hm', e⟩
    · rw [List.mem_singleton.mp z] at hx' ⊢
      obtain ⟨i, hi⟩ := List.mem_iff_getElem?.mp ((hx x).mpr hx')
      have il := (List.getElem?_eq_some_iff.mp hi).1
      refine ⟨ms[i]'(hm ▸ il), ?_, fun y => ?_⟩
      · simp only [List.mem_append]
        exact .inr (.inr (List.getElem_mem _))
      · rw [(hl i x _ hi (by simp [hm ▸ il])).mem]; simp
theorem DL.done (ok : FrOk Fr nms) (h : DL Fr ls []) (l : List Str) : l ∈ ls ↔ GS.Asc l ∧ ∃ m, StepsF Fr m ∧ ∀ x, x ∈ l ↔ x ∈ m := by
  constructor
  · intro hl
    exact ⟨h.asc l (by simpa using hl), h.run l (by simpa using hl)⟩
  · rintro ⟨asc, m, sm, e⟩
    have reach : ∀ k, k ≤ m.length → ∃ q ∈ ls, ∀ x, x ∈ q ↔ x ∈ m.take k := fun k => by
      induction k with
      | zero => intro _; exact ⟨[], by simpa using h.nil, fun x => by simp⟩
      | succ k ih =>
        intro hk
        obtain ⟨q, hq, eq⟩ := ih (by omega)
        obtain ⟨x, hx⟩ : ∃ x, m[k]? = some x := ⟨m[k]'(by omega), by simp⟩
        obtain ⟨q', hq', e'⟩ := h.cl q hq x (ok.same _ _ _ (fun y => (eq y).symm) (sm k x hx))
        refine ⟨q', by simpa using hq', fun y => ?_⟩
        rw [e', eq, GS.take_get hx]; simp
    obtain ⟨q, hq, eq⟩ := reach m.length (Nat.le_refl _)
    have : q = l := GS.Asc.uniq (h.asc q (by simpa using hq)) asc fun x => by rw [eq, List.take_length, e]
    exact this ▸ hq
def F_with3 : FR := fun ds Φ => ∃ (g : List Str) (x : Str), ds = [.tup (g.map .str), .str x] ∧ g.length ≤ 1000 ∧ (g ++ [x]).Nodup ∧ ∀ ys : List Str, GS.IsLot ys (g ++ [x]) → Φ (.d (.tupT (ys.map .str)))
theorem ok_with3 (T : Txt K mg a) : FnOk P w K mg base CX0 1 a.f_lw_with a.fd_lw_with ["_law_lot", "_law_name"] (spR (ZZ K a) F_with3) := by
  refine T.F_lw_with.ok sc_lw_with (fun vs H Q E h => ?_) (fun cdv A outer s H vs Q E hr h => ?_)
  · obtain ⟨M, ds, Φ, _, al, ⟨g, x, rfl, _⟩, _⟩ := h
    exact al.len
  · obtain ⟨M, ds, Φ, ex, al, ⟨g, x, rfl, hl, nd, fin⟩, q⟩ := h
    refine ⟨_, (pss_one (ps_ret (pe_callTy call_tuple_of (by rfl) T.n_tuple (by decide +kernel) (pa_cons (pe_callB GS.cr_sortS (by rfl) T.n_sorted (by decide +kernel) (pa_cons (pe_op op_cat (pe_lc (own := [("_law_one", 2)]) (g := (gName 2)) (tt := tYes) rfl sc_lw_with.nd (pi_tupK (K := K) rfl (pv 0)) (blkOk_by (N := N_lw_with) (sc := defScope s_lw_with) (by decide +kernel)) (fun _ _ _ _ _ => (pg_name (i := 2) sc_lw_with.nd rfl (Or.inl rfl))) (fun _ _ _ _ _ => pts_nil) (fun _ _ _ _ _ => (pe_callTy (T := "str") SkE.call_str_str (by rfl) T.n_str (by decide +kernel) (pa_cons (pv 2) pa_nil)))) (pe_lst (pa_cons (pv 1) pa_nil))) pa_nil)) pa_nil)))), entR (n := 1) ex al rfl q ?_⟩
    walk_at "ent"
    refine xs_ret <| xe_tupleT <| xe_ofO <| xo_sort <| xe_ofO <| xo_cat <| xe_ofO <| xo_fg (v := 2) (g := D.str) (f := D.str) (p := fun _ => true) <| xi_tup <| xe_var rfl ⟨_, rfl, g, rfl, rfl, by omega, fun z hz => xt_yes ⟨rfl, rfl, fun _ => xe_strS <| xe_var rfl ⟨_, rfl, rfl, rfl⟩⟩, _, rfl, xe_ofO <| xo_lst <| xa_cons <| xe_var rfl <| xa_nil ⟨by simp, _, rfl, (g.filter fun _ => true).map .str, [.str x], rfl, rfl, by rw [filter_tt]; simp; omega, _, rfl, g ++ [x], by rw [filter_tt]; simp, fun ys hp hs => ⟨_, rfl, _, rfl, fin ys ⟨GS.asc_of hs (hp.nodup_iff.mpr nd), fun z => hp.mem_iff⟩⟩⟩⟩
theorem shpT {ls : List (List Str)} (h : ∀ l ∈ ls, ∀ w ∈ l, PyData.strOk w = true) : SeqAt.shaped (py (.lst (ls.map lotT))) = true := by
  rw [show py (.lst (ls.map lotT)) = py (.lst (ls.map lotD)) from congrArg PyData.list (py_lotsT ls)]
  exact (lay_lots h).shaped (by decide)
/-! ### lots as keys of a dict -/
theorem lotT_key (l : List Str) : lotT l = .tupT (keysD (keyT l)) := by
  unfold lotT keysD keyT
  rw [List.map_map]; rfl
theorem dgetT_ents {f : List Str → D} {m : List Str} : ∀ ls : List (List Str), dgetT (ls.map fun l => (keyT l, f l)) (keyT m) = if m ∈ ls then some (f m) else none
  | [] => rfl
  | l :: ls => by
    have ih := dgetT_ents (f := f) (m := m) ls
    unfold dgetT at ih ⊢
    rw [List.map_cons, List.find?_cons]
    by_cases c : l = m
    · subst c; simp
    · have ne : ¬ keyT l = keyT m := fun e => c (keyT_inj e)
      have ne2 : ¬ m = l := fun e => c e.symm
      dsimp only
      rw [decide_eq_false ne, ih]
      simp [ne2]
theorem dgetT_none {f : List Str → D} {m : List Str} {ls : List (List Str)} (h : m ∉ ls) : dgetT (ls.map fun l => (keyT l, f l)) (keyT m) = none := by rw [dgetT_ents, if_neg h]
theorem dputT_out {kvs : List (List Key × D)} {k : List Key} {d : D} (h : dgetT kvs k = none) : dputT kvs k d = kvs ++ [(k, d)] := by
  unfold dputT
  rw [if_neg]
  intro c
  obtain ⟨kv, h1, h2⟩ := List.any_eq_true.mp c
  unfold dgetT at h
  rw [Option.map_eq_none_iff, List.find?_eq_none] at h
  exact h kv h1 h2
theorem dgetT_last {kvs : List (List Key × D)} {k : List Key} {d : D} (h : dgetT kvs k = none) : dgetT (kvs ++ [(k, d)]) k = some d := by
  unfold dgetT at h ⊢
  rw [Option.map_eq_none_iff] at h
  rw [List.find?_append, h]
  simp
/-! ### whether a room is as it should be -/
def F_is_room : FR := fun ds Φ => ∃ (os : List Rl) (ns : List Str) (ls : List (List Str)) (fr : List Str → List Str), ds = [roomF os ns, .lst (ns.map .str), dicTD (ls.map fun l => (keyT l, .lst ((fr l).map .str)))] ∧ Few os ns ∧ RoomOk os ns ∧ (∀ x ∈ ns, PyData.strOk x = true) ∧ ls.Nodup ∧ ls.length ≤ 128 ∧ (∀ l, l ∈ ls ↔ LotM os l) ∧ (∀ l ∈ ls, ∀ x, x ∈ fr l ↔ x ∈ mayS os l) ∧ (∀ l ∈ ls, GS.Asc (fr l)) ∧ Φ (.d (.bl true))
theorem same_len {α : Type} [DecidableEq α] {l m : List α} (h1 : l.Nodup) (h2 : m.Nodup) (h : ∀ x, x ∈ l ↔ x ∈ m) : l.length = m.length :=
  Nat.le_antisymm (h1.length_le_of_subset fun x hx => (h x).mp hx) (h2.length_le_of_subset fun x hx => (h x).mpr hx)
theorem ok_is_room (T : Txt K mg a) (G_may : FnOk P w K mg base CX0 2 a.f_may a.fd_may ["room", "gone"] (spR (ZZ K a) F_may)) (G_lots : FnOk P w K mg base CX0 3 a.f_lots a.fd_lots ["room"] (spR (ZZ K a) F_plots)) : FnOk P w K mg base CX0 4 a.f_lw_is_room a.fd_lw_is_room ["_law_made", "_law_names_here", "_law_due"] (spR (ZZ K a) F_is_room) := by
  refine T.F_lw_is_room.ok sc_lw_is_room (fun vs H Q E h => ?_) (fun cdv A outer s H vs Q E hr h => ?_)
  · obtain ⟨M, ds, Φ, _, al, ⟨os, ns, ls, fr, rfl, _⟩, _⟩ := h
    exact al.len
  · obtain ⟨M, ds, Φ, ex, al, ⟨os, ns, ls, fr, rfl, few, rok, sok, nd, l128, mem, frm, fra, fin⟩, q⟩ := h
    refine ⟨_, (pss_cons (ps_set (i := 3) sc_lw_is_room.nd rfl (Or.inl rfl) (pe_call G_lots (hr.mono (by decide)) (by rfl) T.m_lots T.F_lots.kp T.b_lots .nil pass0 (pa_cons (pv 0) pa_nil)))
      (pss_cons (ps_if (pt_cmpR (op_neD hr.units) (pe_callTy call_list_of (by rfl) T.n_list (by decide +kernel) (pa_cons (pe_fldK (K := K) rfl (pv 0) rfl) pa_nil)) (pv 1) (nomark _)) (pss_one (ps_ret pe_bl)) pss_nil)
      (pss_cons (ps_if (pt_cmpR op_ne (pe_callB (show CallR _ (.builtin "len") (G.rLen K) from call_len) (by rfl) T.n_len PySem.boot_len (pa_cons (pv 3) pa_nil)) (pe_callB GX.call_len_dTF (by rfl) T.n_len PySem.boot_len (pa_cons (pv 2) pa_nil)) (nomark _)) (pss_one (ps_ret pe_bl)) pss_nil)
      (pss_cons (ps_if (pt_cmpR (op_neD hr.units) (pe_lc (own := [("_law_lot", 4)]) (g := (gName 4))  rfl sc_lw_is_room.nd (pi_tupK (K := K) rfl (pv 3)) (blkOk_by (N := N_lw_is_room) (sc := defScope s_lw_is_room) (by decide +kernel)) (fun _ _ _ _ _ => (pg_name (i := 4) sc_lw_is_room.nd rfl (Or.inl rfl))) (fun _ _ _ _ _ => pts_one (pt_cmp (pc_dnotin (units1 hr) (pv 4) (pv 2)) rfl)) (fun _ _ _ _ _ => (pv 4))) (pe_lst pa_nil) (nomark _)) (pss_one (ps_ret pe_bl)) pss_nil)
      (pss_one (ps_ret (pe_cmpR (op_eqD hr.units) (pe_lc (own := [("_law_lot", 4)]) (g := (gName 4))  rfl sc_lw_is_room.nd (pi_keys (pv 2)) (blkOk_by (N := N_lw_is_room) (sc := defScope s_lw_is_room) (by decide +kernel)) (fun _ _ _ _ _ => (pg_name (i := 4) sc_lw_is_room.nd rfl (Or.inl rfl))) (fun _ _ _ _ _ => pts_one (pt_cmpR (show OpR _ (compareOp .NotEq) (rNeD K) from op_neD hr.units) (pe_callTy (T := "list") (call_list_ofK (K := K) rfl) (by rfl) T.n_list (by decide +kernel) (pa_cons (pe_call G_may (hr.mono (by decide)) (by rfl) T.m_may T.F_may.kp T.b_may .nil pass0 (pa_cons (pv 0) (pa_cons (pv 4) pa_nil))) pa_nil)) (pe_dget (units1 hr) (pv 2) (pv 4) (fun _ _ => rfl)) (nomark _))) (fun _ _ _ _ _ => (pv 4))) (pe_lst pa_nil) (nomark _)))))))), entR (n := 2) ex al rfl q ?_⟩
    walk_at "ent"
    have lotOk : ∀ l, LotM os l → ∀ x ∈ l, x ∈ ns := fun l ⟨_, m, sm, e⟩ x hx => few.sub sm x ((e x).mp hx)
    refine xs_seq <| xs_set (by decide) <| xr_call (fun _ => .nil) <| xa_cons <| xe_var rfl <| xa_nil ⟨os, ns, rfl, few, fun ms mnd m128 srt mm => on_d ?_⟩
    try dsimp only [List.set]
    refine xs_seq <| xs_if <| xt_test <| xe_neD <| xe_ofO <| xo_list <| xe_wk <| xe_mnames T <| xe_var rfl ⟨_, _, rfl, _, rfl, _, .inr rfl, _, rfl, xe_var rfl ⟨pla_strs _, pla_strs _, shp_lst sok, shp_lst sok, _, rfl, ?_⟩⟩
    rw [eqv_lst, decide_eq_true rfl]
    refine if_nt <| xs_next ?_
    refine xs_seq <| xs_if <| xt_test <| xe_ne <| xe_len <| xe_var rfl ⟨ms.length, by simp [lenD], xe_lenTF <| xe_var rfl ⟨_, rfl, _, _, rfl, rfl, rfl, _, rfl, ?_⟩⟩
    rw [List.length_map, same_len mnd nd fun l => (mm l).trans (mem l).symm, decide_eq_true rfl]
    refine if_nt <| xs_next ?_
    refine xs_seq <| xs_if <| xt_test <| xe_neD <| xe_ofO <| xo_fg (v := 4) (g := fun l : List Str => D.tupT (l.map .str)) (f := lotT) (p := fun l => !decide (l ∈ ls)) <| xi_tup <| xe_var rfl ⟨_, rfl, ms, rfl, rfl, by omega, fun l hl => ?_, _, rfl, ?_⟩
    · try dsimp only [List.set]
      refine xt_B <| xe_dninTF <| xe_var rfl <| xe_var rfl ⟨_, keyT l, rfl, lotT_key l, _, rfl, ?_, rfl, fun _ => xe_var rfl ⟨rfl, rfl⟩⟩
      rw [dgetT_ents]
      by_cases c : l ∈ ls
      · rw [if_pos c, decide_eq_true c]; rfl
      · rw [if_neg c, decide_eq_false c]; rfl
    rw [show (ms.filter fun l => !decide (l ∈ ls)) = [] from List.filter_eq_nil_iff.mpr fun l hl => by simp [(mem l).mpr ((mm l).mp hl)]]
    refine xe_ofO <| xo_lst <| xa_nil ⟨by simp, _, rfl, rfl, rfl, by decide +kernel, by decide +kernel, _, rfl, ?_⟩
    rw [eqv_nil]
    refine if_ff <| xs_next ?_
    try dsimp only [List.set]
    refine xs_ret <| xe_eqD <| xe_ofO <| xo_lcT (vs := [4]) <| xe_var rfl ⟨ls.map fun l => (keyT l, .lst ((fr l).map .str)), rfl, fun v hv => by simp at hv; subst hv; rfl, by rw [List.length_map]; omega, fun i acc δ => acc = [] ∧ δ = [.d (roomF os ns), .d (.lst (ns.map .str)), .d (dicTD (ls.map fun l => (keyT l, .lst ((fr l).map .str)))), .d (.tup (ms.map fun l => D.tupT (l.map .str))), .no], ⟨rfl, rfl⟩, ?_, ?_⟩
    · rintro i d acc δ1 bs hb hi ⟨rfl, rfl⟩
      rw [List.map_map, List.getElem?_map] at hi
      obtain ⟨l, hl, rfl⟩ := Option.map_eq_some_iff.mp hi
      have lm := List.mem_of_getElem? hl
      have lotl := (mem l).mp lm
      have l7 : l.length ≤ 7 := Nat.le_trans (nodup_len (GS.Asc.nodup lotl.1) (lotOk l lotl)) few.s
      refine xg_name (by decide) (hb _ (by decide)) ?_
      try dsimp only [List.set, Function.comp]
      refine xt_test <| xe_neD <| xe_ofO <| xo_list <| xr_call (fun _ => .nil) <| xa_cons <| xe_var rfl <| xa_cons <| xe_wkT <| xe_var rfl ⟨l.map .str, lotT_key l ▸ rfl, xa_nil ⟨os, .tupF (ns.map .str), _, l, rfl, .inr rfl, by have := few.l; omega, fun r hr => by have := (few.f r hr).1; omega, fun ys hy => on_d ⟨_, .inr rfl, _, rfl, ?_⟩⟩⟩
      have e : ys = fr l := GS.Asc.uniq hy.asc (fra l lm) fun x => (hy.mem x).trans (frm l lm x).symm
      have yok : ∀ x ∈ ys, PyData.strOk x = true := fun x hx => by
        rw [e] at hx
        obtain ⟨_, ws, h, _⟩ := mem_may.mp ((frm l lm x).mp hx)
        exact sok x (few.m _ h x (by simp))
      refine xe_dgetTF <| xe_var rfl <| xe_var rfl ⟨_, keyT l, .lst ((fr l).map .str), rfl, rfl, by rw [dgetT_ents, if_pos lm], pla_strs _, pla_strs _, shp_lst yok, shp_lst (e ▸ yok), _, rfl, ?_⟩
      rw [eqv_lst, decide_eq_true e]
      exact if_nt ⟨rfl, rfl⟩
    rintro acc δ1 ⟨rfl, rfl⟩
    refine ⟨_, rfl, xe_ofO <| xo_lst <| xa_nil ⟨by simp, _, rfl, rfl, rfl, by decide +kernel, by decide +kernel, ?_⟩⟩
    rw [eqv_nil]
    exact fin
theorem lay_up {n m : Nat} {d : D} (h : Lay n d) (k : n ≤ m) : Lay m d := ⟨h.1, Nat.le_trans h.2 k⟩
/-! ### edges drawn -/
def EdIn (ns : List Str) (es : List Ed) : Prop := ∀ e ∈ es, e.1 ∈ ns ∧ e.2 ∈ ns ∧ e.1 ≠ e.2
/-! ### forests drawn -/
def ParE (ns : List Str) (par : Nat → Nat) (k : Nat) (e : Ed) : Prop := ∃ a x y, 1 ≤ a ∧ a ≤ k ∧ par a < a ∧ ns[par a]? = some x ∧ ns[a]? = some y ∧ (e = (x, y) ∨ e = (y, x))
theorem ParE.ed {ns : List Str} (nd : ns.Nodup) {par : Nat → Nat} {k : Nat} {e : Ed} (h : ParE ns par k e) : e.1 ∈ ns ∧ e.2 ∈ ns ∧ e.1 ≠ e.2 := by
  obtain ⟨a, x, y, a1, ak, pa, hx, hy, h⟩ := h
  have xy : x ≠ y := fun e => by
    subst e
    have := (List.getElem?_inj (List.getElem?_eq_some_iff.mp hx).1 nd).mp (hx.trans hy.symm)
    omega
  rcases h with rfl | rfl
  · exact ⟨List.mem_of_getElem? hx, List.mem_of_getElem? hy, xy⟩
  · exact ⟨List.mem_of_getElem? hy, List.mem_of_getElem? hx, xy.symm⟩
theorem par_jn {ns : List Str} {par : Nat → Nat} {k : Nat} {es : List Ed} (h : ∀ e ∈ es, ParE ns par k e) {x y : Str} (j : Jn es x y) : ∃ a, par a < a ∧ ((ns[par a]? = some x ∧ ns[a]? = some y) ∨ (ns[par a]? = some y ∧ ns[a]? = some x)) := by
  have go : ∀ e ∈ es, ∀ x y, (e = (x, y) ∨ e = (y, x)) → ∃ a, par a < a ∧ ((ns[par a]? = some x ∧ ns[a]? = some y) ∨ (ns[par a]? = some y ∧ ns[a]? = some x)) := fun e he x y hxy => by
    obtain ⟨a, u, v, a1, ak, pa, hu, hv, h⟩ := h e he
    refine ⟨a, pa, ?_⟩
    rcases hxy with rfl | rfl <;> rcases h with h | h <;> (obtain ⟨rfl, rfl⟩ := Prod.mk.inj h) <;> simp [hu, hv]
  rcases j with j | j
  · exact go _ j x y (.inl rfl)
  · exact go _ j x y (.inr rfl)
theorem par_low {ns : List Str} (nd : ns.Nodup) {par : Nat → Nat} {k : Nat} {es : List Ed} (h : ∀ e ∈ es, ParE ns par k e) : Low es (fun x => ns.idxOf x) := by
  have key : ∀ x y, Jn es x y → ns.idxOf y < ns.idxOf x → ns[par (ns.idxOf x)]? = some y := fun x y j lt => by
    obtain ⟨a, pa, ⟨h1, h2⟩ | ⟨h1, h2⟩⟩ := par_jn h j
    · rw [idx_at nd h1, idx_at nd h2] at lt; omega
    · rw [idx_at nd h2]; exact h1
  refine ⟨fun x y j e => ?_, fun x y z jy jz ly lz => ?_⟩
  · obtain ⟨a, pa, ⟨h1, h2⟩ | ⟨h1, h2⟩⟩ := par_jn h j
    · have e : ns.idxOf x = ns.idxOf y := e
      rw [idx_at nd h1, idx_at nd h2] at e; omega
    · have e : ns.idxOf x = ns.idxOf y := e
      rw [idx_at nd h1, idx_at nd h2] at e; omega
  · have h1 := key x y jy ly
    have h2 := key x z jz lz
    rw [h1] at h2
    exact Option.some.inj h2
/-- the same edges, turned about or twice, in another order -/
def SameJ (es fs : List Ed) : Prop := ∀ x y, Jn es x y ↔ Jn fs x y
theorem jn_perm {es fs : List Ed} (h : fs.Perm es) : SameJ es fs := fun x y => by
  unfold Jn
  rw [h.mem_iff, h.mem_iff]
theorem SameJ.low {es fs : List Ed} (h : SameJ es fs) {rk : Str → Nat} (low : Low es rk) : Low fs rk := low.same fun x y j => (h x y).mpr j
theorem SameJ.ends {es fs : List Ed} (h : SameJ es fs) (x : Str) : x ∈ ends es ↔ x ∈ ends fs := by
  have go : ∀ {es fs : List Ed}, SameJ es fs → x ∈ GK.ends es → x ∈ GK.ends fs := fun {es fs} h hx => by
    obtain ⟨e, he, rfl | rfl⟩ := mem_ends.mp hx
    · exact ((h e.1 e.2).mp (.inl he)).ends.1
    · exact ((h e.1 e.2).mp (.inl he)).ends.2
  exact ⟨go h, go fun x y => (h x y).symm⟩
/-! ### edges drawn -/
def prSD (z : Str × Str) : D := .tup [.str z.1, .str z.2]
theorem pl_prS {p : Str × Str} (h1 : PyData.strOk p.1 = true) (h2 : PyData.strOk p.2 = true) : Pl (prSD p) := by
  refine ⟨rfl, lay_up (n := 1) (lay_tup (n := 0) fun x hx => ?_) (by decide)⟩
  simp only [List.mem_cons, List.not_mem_nil, or_false] at hx
  rcases hx with rfl | rfl
  · exact lay_str h1
  · exact lay_str h2
def F_forest : FD := fun y ds Φ => ∃ (ns : List Str), ds = [.lst (ns.map .str)] ∧ 2 ≤ ns.length ∧ ns.length ≤ 7 ∧ ns.Nodup ∧ (∀ n ∈ ns, n ∈ pool) ∧ DealD y ∧ ∀ (es : List Ed) y', EdIn ns es → es.length ≤ 14 → Low es (fun x => ns.idxOf x) → DealD y' → Φ (.own (.lst (es.map edD))) y'
theorem ok_forest (T : Txt K mg a) (G_lw_draw : FnOk P w K mg base CX0 1 a.f_lw_draw a.fd_lw_draw ["_law_deal_here", "_law_bound"] (spD (ZZ K a) F_draw)) (G_lw_mixed : FnOk P w K mg base CX0 2 a.f_lw_mixed a.fd_lw_mixed ["_law_deal_here", "_law_some"] (spD (ZZ K a) F_mixed)) (G_lw_pick : FnOk P w K mg base CX0 2 a.f_lw_pick a.fd_lw_pick ["_law_deal_here", "_law_some"] (spD (ZZ K a) F_pick3)) : FnOk P w K mg base CX0 3 a.f_lw_forest a.fd_lw_forest ["_law_deal_here", "_law_names_here"] (spD (ZZ K a) F_forest) := by
  refine T.F_lw_forest.ok sc_lw_forest (fun vs H Q E h => ?_) (fun cdv A outer s H vs Q E hr h => ?_)
  · obtain ⟨M, p, q, y, ws, ds, Φ, rfl, _, _, al, ⟨ns, rfl, _⟩, _⟩ := h
    simp [al.len]
  · obtain ⟨M, p, q, y, ws, ds, Φ, rfl, so, ex, al, ⟨ns, rfl, n2, n7, nd, np, hy, k⟩, fin⟩ := h
    refine ⟨_, (pss_cons (ps_set (i := 2) sc_lw_forest.nd rfl (Or.inl rfl) (pe_lst pa_nil))
      (pss_cons (ps_for PassesOwn.never rfl (pi_range2 (by rfl) T.n_range (pa_cons pe_int (pa_cons (pe_callB (show CallR _ (.builtin "len") (G.rLen K) from call_len) (by rfl) T.n_len PySem.boot_len (pa_cons (pv 1) pa_nil)) pa_nil))) (pg_name (i := 3) sc_lw_forest.nd rfl (Or.inl rfl))
      (pss_one (ps_if (pt_cmpR op_gt (pe_call G_lw_draw (hr.mono (by decide)) (by rfl) T.m_lw_draw T.F_lw_draw.kp T.b_lw_draw .nil pass0 (pa_cons (pv 0) (pa_cons pe_int pa_nil))) pe_int (nomark _)) (pss_cons (ps_set (i := 4) sc_lw_forest.nd rfl (Or.inl rfl) (pe_tup (pa_cons (pe_ix (show IxR _ (rIx K) from ix_seq) (pv 1) (pe_call G_lw_draw (hr.mono (by decide)) (by rfl) T.m_lw_draw T.F_lw_draw.kp T.b_lw_draw .nil pass0 (pa_cons (pv 0) (pa_cons (pv 3) pa_nil))) (fun _ _ => rfl)) (pa_cons (pe_ix (show IxR _ (rIx K) from ix_seq) (pv 1) (pv 3) (fun _ _ => rfl)) pa_nil))))
      (pss_cons (ps_expr (pe_bm PySem.F.plainAttrs_list PySem.F.slot_list_append PySem.F.type_list_append mt_append (pv 2) (pa_cons (pe_ifExp (pt_cmpR op_eq (pe_call G_lw_draw (hr.mono (by decide)) (by rfl) T.m_lw_draw T.F_lw_draw.kp T.b_lw_draw .nil pass0 (pa_cons (pv 0) (pa_cons pe_int pa_nil))) pe_int (nomark _)) (pv 4) (GR.pe_back (pv 4))) pa_nil)))
      (pss_one (ps_if (pt_cmpR op_eq (pe_call G_lw_draw (hr.mono (by decide)) (by rfl) T.m_lw_draw T.F_lw_draw.kp T.b_lw_draw .nil pass0 (pa_cons (pv 0) (pa_cons pe_int pa_nil))) pe_int (nomark _)) (pss_one (ps_expr (pe_bm PySem.F.plainAttrs_list PySem.F.slot_list_append PySem.F.type_list_append mt_append (pv 2) (pa_cons (pe_call G_lw_pick (hr.mono (by decide)) (by rfl) T.m_lw_pick T.F_lw_pick.kp T.b_lw_pick .nil pass0 (pa_cons (pv 0) (pa_cons (pe_lst (pa_cons (pv 4) (pa_cons (GR.pe_back (pv 4)) pa_nil))) pa_nil))) pa_nil)))) pss_nil)))) pss_nil)))
      (pss_one (ps_ret (pe_call G_lw_mixed (hr.mono (by decide)) (by rfl) T.m_lw_mixed T.F_lw_mixed.kp T.b_lw_mixed .nil pass0 (pa_cons (pv 0) (pa_cons (pv 2) pa_nil))))))), entD (n := 3) so ex al rfl fin ?_⟩
    walk_at "ent"
    refine xs_seq <| xs_setO (by decide) <| xo_lst <| xa_nil ⟨by simp, by simp, ?_⟩
    try dsimp only [List.set]
    refine xs_seq <| xs_for (vs := [3]) <| xi_rng2 <| xe_int <| xe_len <| xe_var rfl ⟨ns.length, by simp [lenD], 1, ns.length, rfl, rfl, by omega, ?_⟩
    refine ⟨fun i δ => ∃ (y : Dl) (es : List Ed) (s3 s4 : S) (par : Nat → Nat), δ = [.deal q y.cs y.n, .d (.lst (ns.map .str)), .own (.lst (es.map edD)), s3, s4] ∧ (∀ e ∈ es, ParE ns par i e) ∧ es.length ≤ 2 * i ∧ DealD y, ⟨y, [], _, _, fun _ => 0, rfl, fun e he => (nomatch he), by simp, hy⟩, ?_, ?_⟩
    · rintro i dd δ1 hi ⟨y, es, s3, s4, par, rfl, h1, h2, h3⟩
      obtain ⟨hi2, rfl⟩ := rng_at hi
      have il : 1 + i < ns.length := by omega
      refine xg_name (by decide) (by decide) ?_
      try dsimp only [List.set]
      have up : ∀ e, ParE ns par i e → ParE ns par (i + 1) e := fun e ⟨a, x, y, a1, ak, r⟩ => ⟨a, x, y, a1, by omega, r⟩
      refine xs_if <| xt_test <| xe_B0 <| xr_callD (i := 0) (fun _ => .nil) ⟨_, _, _, rfl⟩ <| xa_cons <| xe_int <| xa_nil ⟨q, y, rfl, _, rfl, by omega, by omega, h3, fun d1 y1 d10 d11 hy1 => on_d <| xe_int ⟨_, _, rfl, rfl, _, rfl, ?_⟩⟩
      refine ite_b (fun h => ?_) (fun h => ?_)
      · obtain ⟨vv, hv⟩ : ∃ v, ns[1 + i]? = some v := ⟨_, List.getElem?_eq_getElem il⟩
        refine xs_seq <| xs_set (by decide) <| xe_tup <| xa_cons <| xe_ix <| xe_var rfl <| xr_callD (i := 0) (fun _ => .nil) ⟨_, _, _, rfl⟩ <| xa_cons <| xe_var rfl <| xa_nil ⟨q, y1, rfl, _, rfl, by omega, by omega, hy1, fun d2 y2 d20 d21 hy2 => on_d ?_⟩
        obtain ⟨j, rfl⟩ : ∃ j : Nat, d2 = j := ⟨d2.toNat, by omega⟩
        have jl : j < 1 + i := by omega
        obtain ⟨uu, hu⟩ : ∃ u, ns[j]? = some u := ⟨_, List.getElem?_eq_getElem (by omega)⟩
        refine ⟨j, .str uu, rfl, ?_, xa_cons <| xe_ix <| xe_var rfl <| xe_var rfl ⟨((1 + i : Nat) : Int), .str vv, ?_, ?_, xa_nil ⟨by simp, ?_⟩⟩⟩
        · show atI (ns.map D.str) (j : Int) = some (D.str uu)
          rw [L2.atI_nat (v := D.str uu) (by rw [List.getElem?_map, hu]; rfl)]
        · simp
        · show atI (ns.map D.str) ((1 + i : Nat) : Int) = some (D.str vv)
          rw [L2.atI_nat (v := D.str vv) (by rw [List.getElem?_map, hv]; rfl)]
        try dsimp only [List.set]
        let par' : Nat → Nat := fun a => if a = 1 + i then j else par a
        have keep : ∀ e ∈ es, ParE ns par' (i + 1) e := fun e he => by
          obtain ⟨a, x, y, a1, ak, pa, hx, hy, r⟩ := h1 e he
          have : par' a = par a := if_neg (by omega)
          exact ⟨a, x, y, a1, by omega, by rw [this]; exact pa, by rw [this]; exact hx, hy, r⟩
        have p1 : par' (1 + i) = j := if_pos rfl
        have new : ∀ e : Ed, (e = (uu, vv) ∨ e = (vv, uu)) → ParE ns par' (i + 1) e := fun e he => ⟨1 + i, uu, vv, by omega, by omega, by rw [p1]; exact jl, by rw [p1]; exact hu, hv, he⟩
        refine xs_seq <| xs_mid (J := fun δ => ∃ (y : Dl) (e : Ed), δ = [.deal q y.cs y.n, .d (.lst (ns.map .str)), .own (.lst ((es ++ [e]).map edD)), .d (.int (1 + i)), .d (edD (uu, vv))] ∧ (e = (uu, vv) ∨ e = (vv, uu)) ∧ DealD y) ?_ ?_
        · refine xs_drop <| xe_app ⟨_, rfl⟩ <| joinE (α := Ed × Dl) (fun c => (c.1 = (uu, vv) ∨ c.1 = (vv, uu)) ∧ DealD c.2) (fun c => edD c.1) (fun c => [.deal q c.2.cs c.2.n, .d (.lst (ns.map .str)), .own (.lst (es.map edD)), .d (.int (1 + i)), .d (edD (uu, vv))]) (fun go => ?_) ?_
          · refine xr_if <| xt_test <| xe_eq <| xr_callD (i := 0) (fun _ => .nil) ⟨_, _, _, rfl⟩ <| xa_cons <| xe_int <| xa_nil ⟨q, y2, rfl, _, rfl, by omega, by omega, hy2, fun d y3 d0 d1 hy3 => on_d <| xe_int ⟨_, _, rfl, rfl, rfl, _, rfl, ite_b (fun h => ?_) (fun h => ?_)⟩⟩
            · exact xe_var rfl (go ((uu, vv), y3) ⟨.inl rfl, hy3⟩)
            · exact xe_back <| xe_var rfl ⟨_, rfl, go ((vv, uu), y3) ⟨.inr rfl, hy3⟩⟩
          · rintro ⟨e, y3⟩ ⟨he, hy3⟩
            exact ⟨es.map edD, rfl, by simp; omega, y3, e, by simp, he, hy3⟩
        rintro δ2 ⟨y3, e1, rfl, he1, hy3⟩
        have in1 : ∀ e ∈ es ++ [e1], ParE ns par' (i + 1) e := fun e he => (List.mem_append.mp he).elim (keep e) fun z => by rw [List.mem_singleton.mp z]; exact new e1 he1
        refine xs_if <| xt_test <| xe_eq <| xr_callD (i := 0) (fun _ => .nil) ⟨_, _, _, rfl⟩ <| xa_cons <| xe_int <| xa_nil ⟨q, y3, rfl, _, rfl, by omega, by omega, hy3, fun d y6 d0 d1 hy6 => on_d <| xe_int ⟨_, _, rfl, rfl, rfl, _, rfl, ?_⟩⟩
        refine ite_b (fun h => ?_) (fun h => ?_)
        · refine xs_drop <| xe_app ⟨_, rfl⟩ <| xr_callD (i := 0) (fun _ => .nil) ⟨_, _, _, rfl⟩ <| xa_cons <| xe_ofO <| xo_lst <| xa_cons <| xe_var rfl <| xa_cons <| xe_back <| xe_var rfl ⟨_, rfl, xa_nil ⟨by simp, _, rfl, xa_nil ⟨q, y6, rfl, [edD (uu, vv), edD (vv, uu)], _, rfl, .inl rfl, by simp, by simp, hy6, fun x y7 hx hy7 => on_d ⟨(es ++ [e1]).map edD, rfl, by simp; omega, ?_⟩⟩⟩⟩
          have : ∃ e : Ed, x = edD e ∧ (e = (uu, vv) ∨ e = (vv, uu)) := by
            rcases List.mem_cons.mp hx with rfl | hx
            · exact ⟨(uu, vv), rfl, .inl rfl⟩
            · rw [List.mem_singleton.mp hx]; exact ⟨(vv, uu), rfl, .inr rfl⟩
          obtain ⟨e, rfl, he⟩ := this
          exact ⟨y7, es ++ [e1] ++ [e], .d (.int (1 + i)), .d (edD (uu, vv)), par', by simp, fun e' he' => (List.mem_append.mp he').elim (in1 e') fun z => by rw [List.mem_singleton.mp z]; exact new e he, by simp; omega, hy7⟩
        · exact xs_next ⟨y6, es ++ [e1], .d (.int (1 + i)), .d (edD (uu, vv)), par', rfl, in1, by simp; omega, hy6⟩
      · exact xs_next ⟨y1, es, _, _, par, rfl, fun e he => up e (h1 e he), by omega, hy1⟩
    · rintro δ1 ⟨y, es, s3, s4, par, rfl, h1, h2, h3⟩
      rw [rng_len] at h1 h2
      have low := par_low nd h1
      refine xs_freeze (i := 2) (by decide) rfl ?_
      try dsimp only [List.set]
      refine xs_retS <| xr_callD (i := 0) (fun _ => .nil) ⟨_, _, _, rfl⟩ <| xa_cons <| xe_var rfl <| xa_nil ⟨q, y, rfl, es.map edD, _, rfl, .inl rfl, by simp; omega, fun x hx => ?_, h3, fun zs y5 hz hy5 => ?_⟩
      · obtain ⟨e, he, rfl⟩ := List.mem_map.mp hx
        obtain ⟨m1, m2, _⟩ := (h1 e he).ed nd
        exact pl_prS (p := e) (pool_ok _ (np _ m1)).2.2 (pool_ok _ (np _ m2)).2.2
      obtain ⟨fs, rfl, hfs⟩ := perm_map hz
      exact ⟨y5, rfl, k fs y5 (fun e he => (h1 e (hfs.mem_iff.mp he)).ed nd) (by rw [hfs.length_eq]; omega) ((jn_perm hfs).low low) hy5⟩
/-! ### corners -/
def F_corners : FR := fun ds Φ => ∃ es : List Ed, ds = [.lst (es.map edD)] ∧ es.length ≤ 50 ∧ ∀ ys, GS.IsLot ys (ends es) → Φ (.own (.lst (ys.map .str)))
theorem len_flat {α β : Type} {f : α → List β} {c : Nat} : ∀ {l : List α}, (∀ x ∈ l, (f x).length = c) → (l.flatMap f).length = l.length * c
  | [], _ => by simp
  | x :: l, h => by
    rw [List.flatMap_cons, List.length_append, h x (by simp), len_flat fun y hy => h y (List.mem_cons_of_mem _ hy), List.length_cons, Nat.succ_mul]
    omega
theorem ok_corners (T : Txt K mg a) : FnOk P w K mg base CX0 1 a.f_lw_corners a.fd_lw_corners ["_law_edges"] (spR (ZZ K a) F_corners) := by
  refine T.F_lw_corners.ok sc_lw_corners (fun vs H Q E h => ?_) (fun cdv A outer s H vs Q E hr h => ?_)
  · obtain ⟨M, ds, Φ, _, al, ⟨es, rfl, _⟩, _⟩ := h
    exact al.len
  · obtain ⟨M, ds, Φ, ex, al, ⟨es, rfl, l50, fin⟩, q⟩ := h
    refine ⟨_, (pss_cons (ps_set (i := 1) sc_lw_corners.nd rfl (Or.inl rfl) (pe_lst pa_nil))
      (pss_cons (ps_for PassesOwn.never rfl (pi_list (pv 0)) (pg_name (i := 2) sc_lw_corners.nd rfl (Or.inl rfl))
      (pss_one (ps_expr (pe_bm PySem.F.plainAttrs_list PySem.F.slot_list_extend PySem.F.type_list_extend mt_extend (pv 1) (pa_cons (pe_callTy call_list_of (by rfl) T.n_list (by decide +kernel) (pa_cons (pv 2) pa_nil)) pa_nil)))))
      (pss_one (ps_ret (pe_callB (GS.cr_sortSet rfl) (by rfl) T.n_sorted (by decide +kernel) (pa_cons (pe_callTy (GS.cr_set rfl) (by rfl) T.n_set (by decide +kernel) (pa_cons (pe_lc (own := [("_law_name", 3)]) (g := (gName 3)) (tt := tYes) rfl sc_lw_corners.nd (pi_list (pv 1)) (blkOk_by (N := N_lw_corners) (sc := defScope s_lw_corners) (by decide +kernel)) (fun _ _ _ _ _ => (pg_name (i := 3) sc_lw_corners.nd rfl (Or.inl rfl))) (fun _ _ _ _ _ => pts_nil) (fun _ _ _ _ _ => (pe_callTy (T := "str") SkE.call_str_str (by rfl) T.n_str (by decide +kernel) (pa_cons (pv 3) pa_nil)))) pa_nil)) pa_nil)))))), entR (n := 3) ex al rfl q ?_⟩
    walk_at "ent"
    refine xs_seq <| xs_setO (by decide) <| xo_lst <| xa_nil ⟨by simp, by simp, ?_⟩
    try dsimp only [List.set]
    refine xs_seq <| xs_for (vs := [2]) <| xi_list <| xe_var rfl ⟨_, .inl rfl, fun i δ => ∃ s2 : S, δ = [.d (.lst (es.map edD)), .own (.lst ((ends (es.take i)).map .str)), s2, .no], ⟨_, rfl⟩, ?_, ?_⟩
    · rintro i y δ1 hi ⟨s2, rfl⟩
      obtain ⟨e, he, rfl⟩ : ∃ e, es[i]? = some e ∧ edD e = y := by rw [List.getElem?_map] at hi; exact Option.map_eq_some_iff.mp hi
      have il := (List.getElem?_eq_some_iff.mp he).1
      refine xg_name (by decide) (by decide) ?_
      try dsimp only [List.set]
      refine xs_drop <| xe_ext ⟨_, rfl⟩ <| xe_ofO <| xo_list <| xe_var rfl ⟨[.str e.1, .str e.2], .inr rfl, _, rfl, _, _, rfl, rfl, ?_, .d (edD e), ?_⟩
      · have : (ends (es.take i)).length ≤ 100 := by
          unfold ends
          rw [len_flat (c := 2) fun _ _ => rfl, List.length_take]
          omega
        simp
        omega
      · rw [GS.take_get he]
        unfold ends
        rw [List.flatMap_append]
        simp
    · rintro δ1 ⟨s2, rfl⟩
      rw [List.length_map, List.take_length]
      have el : (ends es).length ≤ 100 := by
        unfold ends
        rw [len_flat (c := 2) fun _ _ => rfl]
        omega
      refine xs_freeze (i := 1) (by decide) rfl ?_
      try dsimp only [List.set]
      exact xs_retO <| xo_lot rfl <| xe_ofO <| xo_fg (v := 3) (g := D.str) (f := D.str) (p := fun _ => true) <| xi_list <| xe_var rfl ⟨_, .inl rfl, ends es, rfl, rfl, by omega, fun z hz => xt_yes ⟨rfl, rfl, fun _ => xe_strS <| xe_var rfl ⟨_, rfl, rfl, rfl⟩⟩, _, rfl, ends es, by rw [filter_tt]; exact .inl rfl, by omega, fun ys hy _ => fin ys hy⟩
/-! ### who is left beside a corner -/
def F_beside : FR := fun ds Φ => ∃ (es : List Ed) (x : Str) (gs : List Str), ds = [.lst (es.map edD), .str x, lotT gs] ∧ es.length ≤ 50 ∧ ∀ fs : List Str, fs.Nodup → (∀ z, z ∈ fs ↔ Jn es x z ∧ z ∉ gs) → Φ (.own (.lst (fs.map .str)))
theorem jn_more {es : List Ed} {e : Ed} {x z : Str} : Jn (es ++ [e]) x z ↔ Jn es x z ∨ (e.1 = x ∧ e.2 = z) ∨ (e.2 = x ∧ e.1 = z) := by
  have k : ∀ p q : Str, (p, q) = e ↔ e.1 = p ∧ e.2 = q := fun p q => by
    rw [Prod.ext_iff]; exact and_congr eq_comm eq_comm
  unfold Jn
  simp only [List.mem_append, List.mem_singleton, k]
  constructor
  · rintro ((h | h) | (h | h))
    · exact .inl (.inl h)
    · exact .inr (.inl h)
    · exact .inl (.inr h)
    · exact .inr (.inr ⟨h.2, h.1⟩)
  · rintro ((h | h) | h | h)
    · exact .inl (.inl h)
    · exact .inr (.inl h)
    · exact .inl (.inr h)
    · exact .inr (.inr ⟨h.2, h.1⟩)
theorem ok_beside (T : Txt K mg a) : FnOk P w K mg base CX0 1 a.f_lw_beside a.fd_lw_beside ["_law_edges", "_law_name", "_law_gone"] (spR (ZZ K a) F_beside) := by
  refine T.F_lw_beside.ok sc_lw_beside (fun vs H Q E h => ?_) (fun cdv A outer s H vs Q E hr h => ?_)
  · obtain ⟨M, ds, Φ, _, al, ⟨es, x, gs, rfl, _⟩, _⟩ := h
    exact al.len
  · obtain ⟨M, ds, Φ, ex, al, ⟨es, x, gs, rfl, l50, fin⟩, q⟩ := h
    refine ⟨_, (pss_cons (ps_set (i := 3) sc_lw_beside.nd rfl (Or.inl rfl) (pe_lst pa_nil))
      (pss_cons (ps_for PassesOwn.never rfl (pi_list (pv 0)) (pg_tup rfl (pgs_cons (pg_name (i := 4) sc_lw_beside.nd rfl (Or.inl rfl)) (pgs_cons (pg_name (i := 5) sc_lw_beside.nd rfl (Or.inl rfl)) pgs_nil)))
      (pss_one (ps_for PassesOwn.never rfl (pi_tupK (K := K) rfl (pe_tup (pa_cons (pe_tup (pa_cons (pv 4) (pa_cons (pv 5) pa_nil))) (pa_cons (pe_tup (pa_cons (pv 5) (pa_cons (pv 4) pa_nil))) pa_nil)))) (pg_tup rfl (pgs_cons (pg_name (i := 6) sc_lw_beside.nd rfl (Or.inl rfl)) (pgs_cons (pg_name (i := 7) sc_lw_beside.nd rfl (Or.inl rfl)) pgs_nil)))
      (pss_one (ps_if (PW.pt (pw_and (pt_cmpR op_eq (pv 6) (pv 1) (nomark _)) (pw_and (pt_cmpR (show OpR _ (compareOp .NotIn) (rIn K true) from op_notIn_seq) (pv 7) (pv 2) rfl) (pw_and1 (pt_cmpR (show OpR _ (compareOp .NotIn) (rIn K true) from op_notIn_seq) (pv 7) (pv 3) rfl))))) (pss_one (ps_expr (pe_bm PySem.F.plainAttrs_list PySem.F.slot_list_append PySem.F.type_list_append mt_append (pv 3) (pa_cons (pv 7) pa_nil)))) pss_nil)))))
      (pss_one (ps_ret (pv 3))))), entR (n := 5) ex al rfl q ?_⟩
    walk_at "ent"
    refine xs_seq <| xs_setO (by decide) <| xo_lst <| xa_nil ⟨by simp, by simp, ?_⟩
    try dsimp only [List.set]
    refine xs_seq <| xs_for (vs := [4, 5]) <| xi_list <| xe_var rfl ⟨_, .inl rfl, fun i δ => ∃ (fs : List Str) (s4 s5 s6 s7 : S), δ = [.d (.lst (es.map edD)), .d (.str x), .d (lotT gs), .own (.lst (fs.map .str)), s4, s5, s6, s7] ∧ fs.Nodup ∧ fs.length ≤ 2 * i ∧ ∀ z, z ∈ fs ↔ Jn (es.take i) x z ∧ z ∉ gs, ⟨[], _, _, _, _, rfl, .nil, by simp, fun z => by simp [Jn]⟩, ?_, ?_⟩
    · rintro i y δ1 hi ⟨fs, s4, s5, s6, s7, rfl, nd, fl, mem⟩
      obtain ⟨e, he, rfl⟩ : ∃ e, es[i]? = some e ∧ edD e = y := by rw [List.getElem?_map] at hi; exact Option.map_eq_some_iff.mp hi
      have il := (List.getElem?_eq_some_iff.mp he).1
      refine xg_tup (xs := [.str e.1, .str e.2]) rfl <| xgs_cons <| xg_name (by decide) (by decide) <| xgs_cons <| xg_name (by decide) (by decide) <| xgs_nil ?_
      try dsimp only [List.set]
      refine xs_for (vs := [6, 7]) <| xi_tup <| xe_tup <| xa_cons <| xe_tup <| xa_cons <| xe_var rfl <| xa_cons <| xe_var rfl <| xa_nil ⟨by simp, xa_cons <| xe_tup <| xa_cons <| xe_var rfl <| xa_cons <| xe_var rfl <| xa_nil ⟨by simp, xa_nil ⟨by simp, _, rfl, ?_⟩⟩⟩
      refine ⟨fun j δ => ∃ (fs : List Str) (s6 s7 : S), δ = [.d (.lst (es.map edD)), .d (.str x), .d (lotT gs), .own (.lst (fs.map .str)), .d (.str e.1), .d (.str e.2), s6, s7] ∧ fs.Nodup ∧ fs.length ≤ 2 * i + j ∧ ∀ z, z ∈ fs ↔ (Jn (es.take i) x z ∨ (0 < j ∧ e.1 = x ∧ e.2 = z) ∨ (1 < j ∧ e.2 = x ∧ e.1 = z)) ∧ z ∉ gs, ⟨fs, _, _, rfl, nd, by simpa using fl, fun z => by simpa using mem z⟩, ?_, ?_⟩
      · rintro j y δ2 hj ⟨fs, s6, s7, rfl, nd, fl, mem⟩
        have two : ∃ p q : Str, y = .tup [.str p, .str q] ∧ j < 2 ∧ ∀ z, (Jn (es.take i) x z ∨ (0 < j + 1 ∧ e.1 = x ∧ e.2 = z) ∨ (1 < j + 1 ∧ e.2 = x ∧ e.1 = z)) ↔ (Jn (es.take i) x z ∨ (0 < j ∧ e.1 = x ∧ e.2 = z) ∨ (1 < j ∧ e.2 = x ∧ e.1 = z)) ∨ (p = x ∧ q = z) := by
          match j, hj with
          | 0, hj =>
            refine ⟨e.1, e.2, (Option.some.inj hj).symm, by decide, fun z => ?_⟩
            simp
          | 1, hj =>
            refine ⟨e.2, e.1, (Option.some.inj hj).symm, by decide, fun z => ?_⟩
            simp [or_assoc]
          | j + 2, hj => simp at hj
        obtain ⟨p, q, rfl, j2, nx⟩ := two
        refine xg_tup (xs := [.str p, .str q]) rfl <| xgs_cons <| xg_name (by decide) (by decide) <| xgs_cons <| xg_name (by decide) (by decide) <| xgs_nil ?_
        try dsimp only [List.set]
        have skip : ¬ (p = x ∧ q ∉ gs ∧ q ∉ fs) → ∀ z, z ∈ fs ↔ (Jn (es.take i) x z ∨ (0 < j + 1 ∧ e.1 = x ∧ e.2 = z) ∨ (1 < j + 1 ∧ e.2 = x ∧ e.1 = z)) ∧ z ∉ gs := fun no z => by
          rw [nx, mem]
          constructor
          · exact fun h => ⟨.inl h.1, h.2⟩
          · rintro ⟨h | ⟨rfl, rfl⟩, hz⟩
            · exact ⟨h, hz⟩
            · exact (mem q).mp (Classical.byContradiction fun c => no ⟨rfl, hz, c⟩)
        refine xs_if <| xt_and <| xt_test <| xe_eq <| xe_var rfl <| xe_var rfl ⟨_, _, rfl, rfl, rfl, _, rfl, ?_⟩
        by_cases c1 : p = x
        · subst c1
          rw [decide_eq_true rfl]
          refine if_tt <| xt_and <| xt_test <| xe_ninT <| xe_var rfl <| xe_wkT <| xe_var rfl ⟨_, rfl, q, gs, rfl, .inr rfl, _, rfl, ?_⟩
          by_cases c2 : q ∈ gs
          · rw [decide_eq_true c2]
            exact if_ff <| if_ff <| xs_next ⟨fs, _, _, rfl, nd, by omega, skip fun h => h.2.1 c2⟩
          rw [decide_eq_false c2]
          refine if_tt <| xt_test <| xe_inO <| xe_var rfl ⟨_, _, _, rfl, rfl, scs_strs _, _, rfl, ?_⟩
          rw [inV_strs]
          by_cases c3 : q ∈ fs
          · rw [decide_eq_true c3]
            exact if_ff <| xs_next ⟨fs, _, _, rfl, nd, by omega, skip fun h => h.2.2 c3⟩
          rw [decide_eq_false c3]
          refine if_tt <| xs_drop <| xe_app ⟨_, rfl⟩ <| xe_var rfl ⟨_, rfl, by simp; omega, ?_⟩
          try dsimp only [List.set]
          refine ⟨fs ++ [q], .d (.str p), .d (.str q), by simp, ?_, by simp; omega, fun z => ?_⟩
          · rw [List.nodup_append]
            exact ⟨nd, by simp, fun u hu v hv e => c3 (by rw [← List.mem_singleton.mp hv, ← e]; exact hu)⟩
          · rw [nx, List.mem_append, List.mem_singleton, mem]
            constructor
            · rintro (h | rfl)
              · exact ⟨.inl h.1, h.2⟩
              · exact ⟨.inr ⟨rfl, rfl⟩, c2⟩
            · rintro ⟨h | ⟨_, rfl⟩, hz⟩
              · exact .inl ⟨h, hz⟩
              · exact .inr rfl
        · rw [decide_eq_false fun h => c1 (by cases h; rfl)]
          exact if_ff <| if_ff <| xs_next ⟨fs, _, _, rfl, nd, by omega, skip fun h => c1 h.1⟩
      · rintro δ2 ⟨fs, s6, s7, rfl, nd, fl, mem⟩
        refine ⟨fs, _, _, _, _, rfl, nd, by simp at fl; omega, fun z => ?_⟩
        rw [mem, GS.take_get he, jn_more]
        exact and_congr_left fun _ => or_congr_right (by simp)
    · rintro δ1 ⟨fs, s4, s5, s6, s7, rfl, nd, fl, mem⟩
      rw [List.length_map, List.take_length] at mem
      exact xs_retV (by decide) rfl (fin fs nd mem)
/-! ### all lots by who is free behind each -/
open Classical in
noncomputable def frF (Fr : List Str → Str → Prop) (ns l : List Str) : List Str := ns.filter fun x => decide (Fr l x)
theorem mem_frF {Fr : List Str → Str → Prop} {ns l : List Str} (ok : FrOk Fr ns) {x : Str} : x ∈ frF Fr ns l ↔ Fr l x := by
  simp only [frF, List.mem_filter, decide_eq_true_eq]
  exact ⟨fun h => h.2, fun h => ⟨ok.nm l x h, h⟩⟩
def F_lots_by (FL : FR) : FR := fun ds Φ => ∃ (ns : List Str) (cds : List D) (Fr : List Str → Str → Prop), ds = [.lst (ns.map .str), .fn 0 cds] ∧ GL.noXL cds = true ∧ FrOk Fr ns ∧ ns.Nodup ∧ ns.length ≤ 7 ∧ (∀ x ∈ ns, PyData.strOk x = true) ∧
  (∀ (l : List Str) (x : Str), x ∈ ns → x ∉ l → l.length ≤ 7 → ∀ Φ' : S → Prop, (∀ b : Bool, (b = true ↔ Fr l x) → Φ' (.d (.bl b))) → FL ([.str x, lotT l] ++ cds) Φ') ∧ ∀ ls, ls.length ≤ 128 → DL Fr ls [] → Φ (.d (dicTD (ls.map fun l => (keyT l, .lst ((frF Fr ns l).map .str)))))
theorem noX_lotT (l : List Str) : GL.noX (lotT l) = true := GL.noXL_map fun _ _ => rfl
theorem ok_lots_by {FL : FR} (T : Txt K mg a) (G_lw_main_L0 : GL.LamOk P w K mg base CX0 2 lS_lw_main_L0 (spR (ZZ K a) FL)) (G_lw_with : FnOk P w K mg base CX0 1 a.f_lw_with a.fd_lw_with ["_law_lot", "_law_name"] (spR (ZZ K a) F_with3)) : FnOk P w K mg base CX0 3 a.f_lw_lots_by a.fd_lw_lots_by ["_law_names_here", "_law_free_at"] (spR (ZZ K a) (F_lots_by FL)) := by
  refine T.F_lw_lots_by.ok sc_lw_lots_by (fun vs H Q E h => ?_) (fun cdv A outer s H vs Q E hr h => ?_)
  · obtain ⟨M, ds, Φ, _, al, ⟨ns, cds, Fr, rfl, _⟩, _⟩ := h
    exact al.len
  · obtain ⟨M, ds, Φ, ex, al, ⟨ns, cds, Fr, rfl, nx, fok, nnd, nl7, sok, free, fin⟩, q⟩ := h
    refine ⟨_, (pss_cons (ps_par (i := 2) (j := 3) (by rfl) sc_lw_lots_by.nd rfl rfl (by decide) rfl rfl (pa_cons pe_dnewT (pa_cons (pe_lst (pa_cons (pe_tup pa_nil) pa_nil)) pa_nil)) (by rfl))
      (pss_cons (ps_while PassesOwn.never (pt_cmpR (op_neD hr.units) (pv 3) (pe_lst pa_nil) (nomark _)) (pss_cons (ps_set (i := 4) sc_lw_lots_by.nd rfl (Or.inr rfl) (pe_bm0 PySem.F.plainAttrs_list PySem.F.slot_list_pop PySem.F.type_list_pop mt_pop (pv 3)))
      (pss_one (ps_if (pt_cmp (pc_dnotin (units1 hr) (pv 4) (pv 2)) rfl) (pss_cons (ps_dput (units1 hr) (pv 2) (pv 4) (pe_lc (own := [("_law_name", 5)]) (g := (gName 5))  rfl sc_lw_lots_by.nd (pi_list (pv 0)) (blkOk_by (N := N_lw_lots_by) (sc := defScope s_lw_lots_by) (by decide +kernel)) (fun _ _ _ _ _ => (pg_name (i := 5) sc_lw_lots_by.nd rfl (Or.inl rfl))) (fun _ _ _ _ _ => pts_one (PW.pt (pw_and (pt_cmpR (show OpR _ (compareOp .NotIn) (rIn K true) from op_notIn_seq) (pv 5) (pv 4) rfl) (pw_and1 (pt_val (GL.pe_callV (S := lS_lw_main_L0) (i := 1) (E := L2.E0) G_lw_main_L0 (hr.mono (by decide)) GL.lam_pass0 rfl (by first | exact Or.inl rfl | exact Or.inr (Or.inl rfl) | exact Or.inr (Or.inr rfl)) (pa_cons (pv 5) (pa_cons (pv 4) pa_nil)))))))) (fun _ _ _ _ _ => (pv 5))) (by rfl))
      (pss_one (ps_expr (pe_bm PySem.F.plainAttrs_list PySem.F.slot_list_extend PySem.F.type_list_extend mt_extend (pv 3) (pa_cons (pe_lc (own := [("_law_name", 5)]) (g := (gName 5)) (tt := tYes) rfl sc_lw_lots_by.nd (pi_list (pe_dget (units1 hr) (pv 2) (pv 4) (fun _ _ => rfl))) (blkOk_by (N := N_lw_lots_by) (sc := defScope s_lw_lots_by) (by decide +kernel)) (fun _ _ _ _ _ => (pg_name (i := 5) sc_lw_lots_by.nd rfl (Or.inl rfl))) (fun _ _ _ _ _ => pts_nil) (fun _ _ _ _ _ => (pe_call G_lw_with (hr.mono (by decide)) (by rfl) T.m_lw_with T.F_lw_with.kp T.b_lw_with .nil pass0 (pa_cons (pv 4) (pa_cons (pv 5) pa_nil))))) pa_nil))))) pss_nil))))
      (pss_one (ps_ret (GX.pe_lkT (pv 2)))))), entR (n := 4) ex al rfl q ?_⟩
    walk_at "ent"
    refine xs_seq <| xs_parOO (by decide) (by decide) (by decide) <| xo_dnewT <| xo_lst <| xa_cons <| xe_tupT <| xa_nil ⟨by decide, xa_nil ⟨by simp, by simp, by simp, ?_⟩⟩
    try dsimp only [List.set]
    refine xs_seq <| xs_while (fun m δ => ∃ (ls ws : List (List Str)) (s4 : S), δ = [.d (.lst (ns.map .str)), .d (.fn 0 cds), .own (.dT (ls.map fun l => (keyT l, .lst ((frF Fr ns l).map .str)))), .own (.lst (ws.map lotT)), s4, .no] ∧ DL Fr ls ws ∧ ws.length ≤ 7 * ls.length + 1 ∧ m = 9 * (128 - ls.length) + ws.length) ⟨_, [], [[]], _, rfl, .start, by simp, rfl⟩ ?_
    rintro m δ1 ⟨ls, ws, s4, rfl, dl, wl, rfl⟩
    have l128 := dl.small fok nl7
    have l7s := dl.len7 fok nl7
    have wok : ∀ l ∈ ls ++ ws, ∀ x ∈ l, x ∈ ns := fun l hl x hx => by
      obtain ⟨m, sm, e⟩ := dl.run l hl
      obtain ⟨i, hi⟩ := List.mem_iff_getElem?.mp ((e x).mp hx)
      exact fok.nm _ _ (sm i x hi)
    refine xt_test <| xe_neO rfl <| xe_ofO <| xo_lst <| xa_nil ⟨by simp, _, rfl, rfl, pla_lotsT ws, rfl, shpT fun l hl w hw => sok w (wok l (List.mem_append_right _ hl) w hw), shp_lst (ns := []) (by simp), _, rfl, ?_⟩
    rw [eqv_nil]
    rcases List.eq_nil_or_concat ws with e | ⟨ws', l, e⟩
    · subst e
      exact if_ff <| xs_retLkT (by decide) rfl (fin ls l128 dl)
    rw [List.concat_eq_append] at e
    subst e
    rw [show ((ws' ++ [l]).map lotT).isEmpty = false from by simp]
    refine if_nf ?_
    rw [List.map_append]
    refine xs_seq <| xs_set (by decide) <| xe_popL rfl ?_
    try dsimp only [List.set]
    have lin : l ∈ ls ++ (ws' ++ [l]) := by simp
    have ll7 := l7s l lin
    have wl' : ws'.length + 1 ≤ 7 * ls.length + 1 := by rw [List.length_append, List.length_singleton] at wl; exact wl
    refine xs_if <| xt_B <| xe_dninT (i := 2) <| xe_var rfl ⟨_, keyT l, rfl, lotT_key l, _, rfl, ?_⟩
    rw [dgetT_ents]
    by_cases c : l ∈ ls
    · rw [if_pos c]
      refine if_nt <| xs_next ⟨_, ?_, ls, ws', _, rfl, dl.old c, by omega, rfl⟩
      rw [List.length_append, List.length_singleton]; omega
    rw [if_neg c]
    have gn := dgetT_none (f := fun l => D.lst ((frF Fr ns l).map .str)) c
    refine if_nf ?_
    refine xs_seq <| xs_dputT (i := 2) <| xe_ofO <| xo_lc (vs := [5]) <| xi_list <| xe_var rfl ⟨_, .inl rfl, fun v hv => by simp at hv; subst hv; rfl, by rw [List.length_map]; omega, fun k acc δ => δ = [.d (.lst (ns.map .str)), .d (.fn 0 cds), .own (.dT (ls.map fun l => (keyT l, .lst ((frF Fr ns l).map .str)))), .own (.lst (ws'.map lotT)), .d (lotT l), .no] ∧ acc = (frF Fr (ns.take k) l).map .str, ⟨rfl, rfl⟩, ?_, ?_⟩
    · rintro k d acc δ1 bs hb hk ⟨rfl, rfl⟩
      obtain ⟨x, hx, rfl⟩ : ∃ x, ns[k]? = some x ∧ D.str x = d := by rw [List.getElem?_map] at hk; exact Option.map_eq_some_iff.mp hk
      have tk : ns.take (k + 1) = ns.take k ++ [x] := GS.take_get hx
      have tk2 : ∀ b : Bool, (b = true ↔ Fr l x) → frF Fr (ns.take (k + 1)) l = frF Fr (ns.take k) l ++ if b = true then [x] else [] := fun b hb => by
        rw [tk]
        simp only [frF, List.filter_append]
        congr 1
        by_cases c : b = true
        · rw [if_pos c]; simp [hb.mp c]
        · rw [if_neg c]
          have : ¬ Fr l x := fun z => c (hb.mpr z)
          simp [this]
      have xin := List.mem_of_getElem? hx
      refine xg_name (by decide) (hb _ (by decide)) ?_
      try dsimp only [List.set]
      refine xt_and <| xt_test <| xe_ninT <| xe_var rfl <| xe_wkT <| xe_var rfl ⟨_, rfl, x, l, rfl, .inr rfl, _, rfl, ?_⟩
      by_cases cl : x ∈ l
      · rw [decide_eq_true cl]
        refine if_nt <| if_ff ⟨rfl, ?_⟩
        rw [tk2 false ⟨fun h => (nomatch h), fun h => absurd cl (fok.new l x h)⟩]
        simp
      rw [decide_eq_false cl]
      refine if_nf <| xt_B <| GL.xr_callV (Z := ZZ K a) rfl ⟨cds, rfl⟩ <| xa_cons <| xe_var rfl <| xa_cons <| xe_var rfl <| xa_nil ⟨cds, rfl, by show (true && (GL.noX (lotT l) && true)) = true; rw [noX_lotT]; rfl, nx, free l x xin cl ll7 _ fun b hb => on_d ⟨b, rfl, ?_⟩⟩
      cases b with
      | true =>
        refine if_tt <| xe_var rfl ⟨rfl, ?_⟩
        rw [tk2 true hb, if_pos rfl, List.map_append]; rfl
      | false =>
        refine if_ff ⟨rfl, ?_⟩
        rw [tk2 false hb, if_neg Bool.false_ne_true, List.append_nil]
    rintro acc δ1 ⟨rfl, rfl⟩
    rw [List.length_map, List.take_length]
    refine ⟨_, rfl, ⟨_, rfl⟩, xe_var rfl ⟨_, keyT l, rfl, lotT_key l, by rw [List.length_map]; omega, ?_⟩⟩
    rw [dputT_out gn]
    try dsimp only [List.set]
    have fl7 : (frF Fr ns l).length ≤ 7 := Nat.le_trans (List.length_filter_le _ _) nl7
    refine xs_drop <| xe_ext ⟨_, rfl⟩ <| xe_ofO <| xo_lc (vs := [5]) <| xi_list <| xe_dgetTO ⟨_, rfl⟩ <| xe_var rfl ⟨_, keyT l, .lst ((frF Fr ns l).map .str), rfl, lotT_key l, dgetT_last gn, _, .inl rfl, fun v hv => by simp at hv; subst hv; rfl, by rw [List.length_map]; omega, fun k acc δ => δ = [.d (.lst (ns.map .str)), .d (.fn 0 cds), .own (.dT ((ls.map fun l => (keyT l, .lst ((frF Fr ns l).map .str))) ++ [(keyT l, .lst ((frF Fr ns l).map .str))])), .own (.lst (ws'.map lotT)), .d (lotT l), .no] ∧ ∃ ms : List (List Str), acc = ms.map lotT ∧ ms.length = ((frF Fr ns l).take k).length ∧ ∀ (i : Nat) x m, ((frF Fr ns l).take k)[i]? = some x → ms[i]? = some m → GS.IsLot m (l ++ [x]), ⟨rfl, [], rfl, rfl, fun i x m h => by simp at h⟩, ?_, ?_⟩
    · rintro k x acc δ1 bs hb hk ⟨rfl, ms, rfl, ml, mi⟩
      obtain ⟨n, hn, rfl⟩ : ∃ n, (frF Fr ns l)[k]? = some n ∧ D.str n = x := by rw [List.getElem?_map] at hk; exact Option.map_eq_some_iff.mp hk
      have tk : (frF Fr ns l).take (k + 1) = (frF Fr ns l).take k ++ [n] := GS.take_get hn
      have fn := (mem_frF fok).mp (List.mem_of_getElem? hn)
      refine xg_name (by decide) (hb _ (by decide)) ?_
      try dsimp only [List.set]
      refine xt_yes <| if_tt <| xr_call (fun _ => .nil) <| xa_cons <| xe_wkT <| xe_var rfl ⟨_, rfl, xa_cons <| xe_var rfl <| xa_nil ⟨l, n, rfl, by omega, ?_, fun ys hys => on_d ⟨rfl, ms ++ [ys], by rw [List.map_append]; rfl, by rw [tk, List.length_append, List.length_append, ml]; rfl, fun i x m hx hm => ?_⟩⟩⟩
      · exact List.nodup_append.mpr ⟨GS.Asc.nodup (dl.asc l lin), by simp, fun y hy z hz e => fok.new l n fn (by rw [List.mem_singleton.mp hz] at e; exact e ▸ hy)⟩
      · rw [tk] at hx
        by_cases c : i < ms.length
        · rw [List.getElem?_append_left c] at hm
          rw [List.getElem?_append_left (ml ▸ c)] at hx
          exact mi i x m hx hm
        · rw [List.getElem?_append_right (by omega)] at hm
          rw [List.getElem?_append_right (by omega)] at hx
          have e0 : i - ms.length = 0 := by
            have := (List.getElem?_eq_some_iff.mp hm).1
            simp at this; omega
          rw [ml] at e0
          rw [e0] at hx
          rw [ml, e0] at hm
          cases hx; cases hm
          exact hys
    rintro acc δ1 ⟨rfl, ms, rfl, ml, mi⟩
    rw [List.length_map, List.take_length] at ml mi
    have dl' := dl.new (xs := frF Fr ns l) fok c (fun x => mem_frF fok) ml mi
    have small' := dl'.small fok nl7
    rw [List.length_append, List.length_singleton] at small'
    refine ⟨_, rfl, _, _, rfl, rfl, by rw [List.length_map, List.length_map]; omega, 9 * (128 - (ls.length + 1)) + (ws' ++ ms).length, ?_, ls ++ [l], ws' ++ ms, .d (lotT l), ?_, dl', ?_, by simp only [List.length_append, List.length_singleton]⟩
    · rw [List.length_append, List.length_append, List.length_singleton]; omega
    · rw [List.map_append, List.map_append]; rfl
    · rw [List.length_append, List.length_append, List.length_singleton]; omega
/-! ### lots of two rooms -/
/-! ### nobody is stuck in a forest -/
theorem low_tri {es : List Ed} {rk : Str → Nat} (low : Low es rk) {x u v : Str} (h1 : Jn es x u) (h2 : Jn es x v) (ne : u ≠ v) : ¬ Jn es u v := fun h3 => by
  have n1 := low.ne x u h1
  have n2 := low.ne x v h2
  have n3 := low.ne u v h3
  rcases Nat.lt_or_gt_of_ne n1 with a | a <;> rcases Nat.lt_or_gt_of_ne n2 with b | b <;> rcases Nat.lt_or_gt_of_ne n3 with c | c
  · exact low.ne x u h1 (by rw [low.one v x u h2.symm h3.symm b c])
  · exact low.ne x v h2 (by rw [low.one u x v h1.symm h3 a c])
  · omega
  · exact low.ne x v h2 (by rw [low.one u x v h1.symm h3 a c])
  · exact low.ne x u h1 (by rw [low.one v x u h2.symm h3.symm b c])
  · omega
  · exact ne (low.one x u v h1 h2 a b)
  · exact ne (low.one x u v h1 h2 a b)
theorem most_of {α : Type} (f : α → Nat) : ∀ {l : List α}, l ≠ [] → ∃ x ∈ l, ∀ y ∈ l, f y ≤ f x
  | [], h => absurd rfl h
  | [x], _ => ⟨x, by simp, fun y hy => by rw [List.mem_singleton.mp hy]; exact Nat.le_refl _⟩
  | x :: y :: l, _ => by
    obtain ⟨z, hz, k⟩ := most_of f (l := y :: l) (by simp)
    by_cases c : f z ≤ f x
    · refine ⟨x, by simp, fun u hu => ?_⟩
      rcases List.mem_cons.mp hu with e | e
      · rw [e]; exact Nat.le_refl _
      · exact Nat.le_trans (k u e) c
    · refine ⟨z, List.mem_cons_of_mem _ hz, fun u hu => ?_⟩
      rcases List.mem_cons.mp hu with e | e
      · rw [e]; omega
      · exact k u e
theorem low_free {es : List Ed} {rk : Str → Nat} (low : Low es rk) {os : List Rl} {ms : List Str} (k : TakeR es os ms) {hs : List Str} (h : IsHull os ms [] hs) : hs = [] := by
  obtain ⟨l, lv, rfl⟩ := h
  refine List.filter_eq_nil_iff.mpr fun x hx => ?_
  have bad : ¬ ∃ z ∈ ms, z ∉ l := fun ⟨z, hz, zl⟩ => by
    have L0 : (ms.filter fun q => !decide (q ∈ l)) ≠ [] := List.ne_nil_of_mem (List.mem_filter.mpr ⟨hz, by simpa using zl⟩)
    obtain ⟨u, hu, top⟩ := most_of rk L0
    obtain ⟨u1, u2⟩ := List.mem_filter.mp hu
    have inL : ∀ {w}, Jn es u w → w ∉ l → rk w < rk u := fun {w} j wl => by
      have h1 := top w (List.mem_filter.mpr ⟨(k.ns w).mpr j.ends.2, by simpa using wl⟩)
      have h2 := low.ne u w j
      omega
    have := lv.stop u ((k.may u ((k.ns u).mp u1) l).mpr ⟨by simpa using u2, fun a b ja jb ne nj => by
      by_cases ca : a ∈ l
      · exact .inl ca
      · refine .inr (Classical.byContradiction fun cb => ne (low.one u a b ja jb (inL ja ca) (inL jb cb)))⟩)
    cases this
  have : x ∈ l := Classical.byContradiction fun c => bad ⟨x, hx, c⟩
  simp [this]
/-! ### a room is as its lots were found -/
theorem told_gen {Fr : List Str → Str → Prop} {os : List Rl} {ns us : List Str} {ls : List (List Str)} (few : Few os ns) (rok : RoomOk os ns) (same : ∀ x, x ∈ us ↔ x ∈ ns) (asc : GS.Asc us) (sok : ∀ x ∈ us, PyData.strOk x = true) (fok : FrOk Fr us) (may : ∀ l x, x ∈ mayS os l ↔ Fr l x) (l128 : ls.length ≤ 128) (dl : DL Fr ls []) {Φ : S → Prop} (k : Φ (.d (.bl true))) :
    F_is_room [roomF os ns, .lst (us.map .str), dicTD (ls.map fun l => (keyT l, .lst ((frF Fr us l).map .str)))] Φ := by
  have e : us = ns := GS.Asc.uniq asc few.a same
  subst e
  have st : ∀ m, Steps os m ↔ StepsF Fr m := fun m => ⟨fun h i x hx => (may _ _).mp (h i x hx), fun h i x hx => (may _ _).mpr (h i x hx)⟩
  refine ⟨os, us, ls, frF Fr us, rfl, few, rok, sok, dl.nd, l128, fun l => (dl.done fok l).trans ?_, fun l _ x => (mem_frF fok).trans (may l x).symm, fun l _ => few.a.sublist List.filter_sublist, k⟩
  unfold LotM
  simp only [st]
theorem lots_none {es : List Ed} (he : ends es = []) {ms : List (List Str)} {os : List Rl} {ns : List Str} (t : TakeR es os ns) (nd : ms.Nodup) (mm : ∀ l, l ∈ ms ↔ LotM os l) : ms = [[]] := by
  have no : ∀ l x, x ∉ mayS os l := fun l x h => by
    obtain ⟨_, ws, hm, _⟩ := mem_may.mp h
    have := (t.ns x).mp (t.few.m _ hm x (by simp))
    rw [he] at this; cases this
  have all : ∀ l, l ∈ ms ↔ l = [] := fun l => by
    rw [mm]
    constructor
    · rintro ⟨_, m, sm, e⟩
      cases m with
      | nil => exact List.eq_nil_iff_forall_not_mem.mpr fun x hx => by simpa using (e x).mp hx
      | cons x m => exact absurd (sm 0 x rfl) (no _ _)
    · rintro rfl
      exact ⟨.nil, [], fun i x h => by simp at h, fun _ => Iff.rfl⟩
  match ms, nd, all with
  | [], _, all => exact absurd ((all []).mpr rfl) (by simp)
  | [x], _, all => exact congrArg (fun z => [z]) ((all x).mp (by simp))
  | x :: y :: ms, nd, all =>
    have e1 := (all x).mp (by simp)
    have e2 := (all y).mp (by simp)
    subst e1; subst e2
    simp at nd
theorem edsOk {ns : List Str} {es : List Ed} (h : EdIn ns es) (np : ∀ n ∈ ns, n ∈ pool) (l : es.length ≤ 100) : EdsOk es := ⟨l, fun e he => ⟨nm_pool (np _ (h e he).1), nm_pool (np _ (h e he).2.1), (h e he).2.2⟩, fun e he => ⟨(pool_ok _ (np _ (h e he).1)).2.2, (pool_ok _ (np _ (h e he).2.1)).2.2⟩⟩
theorem edsFew {ns : List Str} {es : List Ed} (h : EdIn ns es) (l : ns.length ≤ 7) : ∀ ms, GS.IsLot ms (ends es) → ms.length ≤ 7 := fun ms hm => Nat.le_trans (nodup_len (GS.Asc.nodup hm.asc) fun x hx => by
  obtain ⟨e, he, rfl | rfl⟩ := mem_ends.mp ((hm.mem x).mp hx)
  · exact (h e he).1
  · exact (h e he).2.1) l
/-! ### the law -/
/-- who is free behind a lot: whose neighbours that are left are joined to one another -/
def FrJ (es : List Ed) (l : List Str) (x : Str) : Prop := x ∈ ends es ∧ x ∉ l ∧ ∀ u v, Jn es x u → u ∉ l → Jn es x v → v ∉ l → u ≠ v → Jn es u v
theorem frJ_ok {es : List Ed} {ns : List Str} (h : ∀ x ∈ ends es, x ∈ ns) : FrOk (FrJ es) ns :=
  ⟨fun l m x e ⟨h1, h2, h3⟩ => ⟨h1, fun c => h2 ((e x).mpr c), fun u v a b c d => h3 u v a (fun z => b ((e u).mp z)) c (fun z => d ((e v).mp z))⟩, fun l x h => h.2.1, fun l x h' => h x h'.1⟩
theorem take_frJ {es : List Ed} {os : List Rl} {ns : List Str} (t : TakeR es os ns) (l : List Str) (x : Str) : x ∈ mayS os l ↔ FrJ es l x := by
  constructor
  · intro h
    obtain ⟨_, ws, hm, _⟩ := mem_may.mp h
    have xe := (t.ns x).mp (t.few.m _ hm x (by simp))
    obtain ⟨h1, h2⟩ := (t.may x xe l).mp h
    exact ⟨xe, h1, fun u v a b c d ne => Classical.byContradiction fun nj => (h2 u v a c ne nj).elim b d⟩
  · rintro ⟨h1, h2, h3⟩
    exact (t.may x h1 l).mpr ⟨h2, fun u v a c ne nj => Classical.byContradiction fun z => nj (h3 u v a (fun k => z (.inl k)) c (fun k => z (.inr k)) ne)⟩
def F_lam : FR := fun ds Φ => ∃ (es : List Ed) (x : Str) (l : List Str), ds = [.str x, lotT l, .lst (es.map edD)] ∧ es.length ≤ 50 ∧ (∀ z, Jn es x z → z ≠ x) ∧ ∀ b : Bool, (b = true ↔ ∀ u v, Jn es x u → u ∉ l → Jn es x v → v ∉ l → u = v) → Φ (.d (.bl b))
theorem xr_ofE {Z : Wd} {te : TE} {δ : List S} {Ψ : S → List S → Prop} (h : XE Z te δ fun d δ' => Ψ (.d d) δ') : XR Z te δ Ψ := XR.imp h fun s δ' p => by
  cases s with
  | d x => exact p
  | _ => exact False.elim p
theorem few_two {fs : List Str} (nd : fs.Nodup) : fs.length < 2 ↔ ∀ u ∈ fs, ∀ v ∈ fs, u = v := by
  match fs, nd with
  | [], _ => simp
  | [x], _ => simp
  | x :: y :: fs, nd =>
    constructor
    · intro h; simp only [List.length_cons] at h; omega
    · intro h
      have := h x (by simp) y (by simp)
      subst this
      simp at nd
theorem ok_lam (T : Txt K mg a) (G_lw_beside : FnOk P w K mg base CX0 1 a.f_lw_beside a.fd_lw_beside ["_law_edges", "_law_name", "_law_gone"] (spR (ZZ K a) F_beside)) : GL.LamOk P w K mg base CX0 2 lS_lw_main_L0 (spR (ZZ K a) F_lam) := by
  refine GL.lam_ofR lp_lw_main_L0 (fun ds Φ ⟨es, x, l, e, _⟩ => by rw [e]; rfl) (fun A outer s H E f c' cs hr => ⟨_, (pe_cmpR op_lt (pe_callB (show CallR _ (.builtin "len") (G.rLen K) from call_len) (by rfl) T.n_len PySem.boot_len (pa_cons (pe_call G_lw_beside (hr.mono (by decide)) (by rfl) T.m_lw_beside T.F_lw_beside.kp T.b_lw_beside .nil pass0 (pa_cons (pv 2) (pa_cons (pv 0) (pa_cons (pv 1) pa_nil)))) pa_nil)) pe_int (nomark _)), fun ds Φ h => ?_⟩)
  obtain ⟨es, x, l, rfl, l50, _, fin⟩ := h
  refine xr_ofE <| xe_B0 <| xe_len <| xe_ofO <| xr_call (fun _ => .nil) <| xa_cons <| xe_var rfl <| xa_cons <| xe_var rfl <| xa_cons <| xe_var rfl <| xa_nil ⟨es, x, l, rfl, l50, fun fs nd mem => on_o ⟨_, rfl, fs.length, by simp [lenD], xe_int ⟨_, _, rfl, rfl, fin _ ?_⟩⟩⟩
  rw [decide_eq_true_iff]
  have e : ((fs.length : Nat) : Int) < 2 ↔ fs.length < 2 := by omega
  rw [e, few_two nd]
  exact ⟨fun h u v a b c d => h u ((mem u).mpr ⟨a, b⟩) v ((mem v).mpr ⟨c, d⟩), fun h u hu v hv => h u v ((mem u).mp hu).1 ((mem u).mp hu).2 ((mem v).mp hv).1 ((mem v).mp hv).2⟩
theorem noX_eds (es : List Ed) : GL.noXL [.lst (es.map edD)] = true := by
  show (GL.noXL (es.map edD) && true) = true
  rw [GL.noXL_map fun e _ => rfl]; rfl
theorem noX_due (ls : List (List Str)) (f : List Str → List Str) : GL.noXS (.d (dicTD (ls.map fun l => (keyT l, D.lst ((f l).map .str))))) = true := by
  show GL.noXL ((ls.map fun l => (keyT l, D.lst ((f l).map .str))).map (·.2)) = true
  rw [List.map_map]
  exact GL.noXL_map fun l _ => GL.noXL_map fun _ _ => rfl
theorem pl_eds {es : List Ed} (sok : StrOkE es) : (py (.lst (es.map edD))).canLay0 = true := by
  obtain ⟨h1, h2⟩ := lay_eds sok
  show (PyData.list (pyL (es.map edD))).canLay0 = true
  simp [PyData.canLay0, h1]
theorem ok_law (T : Txt K mg a) {cA PA : Addr} (hcA : a.fd_lw_main.code = .ref cA) (TBm : LamX.TabB base mg cA PA) (G_lw_deal : FnOk P w K mg base CX0 1 a.f_lw_deal a.fd_lw_deal ["_law_script", "_law_base"] (spR (ZZ K a) F_deal)) (G_lw_draw : FnOk P w K mg base CX0 1 a.f_lw_draw a.fd_lw_draw ["_law_deal_here", "_law_bound"] (spD (ZZ K a) F_draw)) (G_lw_names : FnOk P w K mg base CX0 2 a.f_lw_names a.fd_lw_names ["_law_deal_here", "_law_bound"] (spD (ZZ K a) F_names))
    (G_lw_forest : FnOk P w K mg base CX0 3 a.f_lw_forest a.fd_lw_forest ["_law_deal_here", "_law_names_here"] (spD (ZZ K a) F_forest)) (G_lw_corners : FnOk P w K mg base CX0 1 a.f_lw_corners a.fd_lw_corners ["_law_edges"] (spR (ZZ K a) F_corners)) (G_lw_lots_by : FnOk P w K mg base CX0 3 a.f_lw_lots_by a.fd_lw_lots_by ["_law_names_here", "_law_free_at"] (spR (ZZ K a) (F_lots_by F_lam))) (G_lw_is_room : FnOk P w K mg base CX0 4 a.f_lw_is_room a.fd_lw_is_room ["_law_made", "_law_names_here", "_law_due"] (spR (ZZ K a) F_is_room))
    (G_tree : FnOk P w K mg base CX0 7 a.f_tree a.fd_tree ["edges"] (spR (ZZ K a) F_tree)) (G_stuck : FnOk P w K mg base CX0 5 a.f_stuck a.fd_stuck ["room"] (spR (ZZ K a) F_stuck)) (G_lots : FnOk P w K mg base CX0 3 a.f_lots a.fd_lots ["room"] (spR (ZZ K a) F_plots)) : FnOk P w K mg base CX0 8 a.f_lw_main a.fd_lw_main ["_law_script"] (GL.spLawT (ZZ K a) [(PA, lS_lw_main_L0.q)]) := by
  have hmT : (PA, lS_lw_main_L0.q) ∈ [(PA, lS_lw_main_L0.q)] := List.mem_cons_self
  have huT : ∀ p ∈ [(PA, lS_lw_main_L0.q)], p.1 = PA → p.2 = lS_lw_main_L0.q := fun p hp _ => by rw [List.mem_singleton.mp hp]
  refine GL.fun_okC T.F_lw_main hcA sc_lw_main (fun vs H Q E h => ?_) (fun A outer s H vs Q E hr h => ?_)
  · obtain ⟨p, ns, rfl, _⟩ := h
    rfl
  · obtain ⟨p, scr, rfl, sq, hl, tb, ne, fin⟩ := h
    refine ⟨_, (pss_cons (ps_for PassesOwn.never rfl (pi_range1 (by rfl) T.n_range (pa_cons (pe_callB (call_max2 rfl) (by rfl) T.n_max (by decide +kernel) (pa_cons pe_int (pa_cons (pe_callB (call_min2 rfl) (by rfl) T.n_min (by decide +kernel) (pa_cons pe_int (pa_cons (pe_callB (show CallR _ (.builtin "len") (G.rLen K) from call_len) (by rfl) T.n_len PySem.boot_len (pa_cons (pv 0) pa_nil)) pa_nil))) pa_nil))) pa_nil)) (pg_name (i := 1) sc_lw_main.nd rfl (Or.inl rfl))
      (pss_cons (ps_set (i := 2) sc_lw_main.nd rfl (Or.inl rfl) (pe_call G_lw_deal (hr.mono (by decide)) (by rfl) T.m_lw_deal T.F_lw_deal.kp T.b_lw_deal .nil pass0 (pa_cons (pv 0) (pa_cons (pv 1) pa_nil))))
      (pss_one (ps_for PassesOwn.never rfl (pi_range1 (by rfl) T.n_range (pa_cons pe_int pa_nil)) (pg_name (i := 3) sc_lw_main.nd rfl (Or.inl rfl))
      (pss_cons (ps_set (i := 4) sc_lw_main.nd rfl (Or.inr rfl) (pe_call G_lw_forest (hr.mono (by decide)) (by rfl) T.m_lw_forest T.F_lw_forest.kp T.b_lw_forest .nil pass0 (pa_cons (pv 2) (pa_cons (pe_call G_lw_names (hr.mono (by decide)) (by rfl) T.m_lw_names T.F_lw_names.kp T.b_lw_names .nil pass0 (pa_cons (pv 2) (pa_cons (pe_op op_add pe_int (pe_call G_lw_draw (hr.mono (by decide)) (by rfl) T.m_lw_draw T.F_lw_draw.kp T.b_lw_draw .nil pass0 (pa_cons (pv 2) (pa_cons pe_int pa_nil)))) pa_nil))) pa_nil))))
      (pss_cons (ps_par (i := 5) (j := 6) (by rfl) sc_lw_main.nd rfl rfl (by decide) rfl rfl (pa_cons (pe_call G_lw_corners (hr.mono (by decide)) (by rfl) T.m_lw_corners T.F_lw_corners.kp T.b_lw_corners .nil pass0 (pa_cons (pv 4) pa_nil)) (pa_cons (pe_callTy call_list_of (by rfl) T.n_list (by decide +kernel) (pa_cons (pv 4) pa_nil)) pa_nil)) (by rfl))
      (pss_cons (ps_set (i := 7) sc_lw_main.nd rfl (Or.inl rfl) (GL.pe_callC (E := L2.E0) G_lw_lots_by (hr.mono (by decide)) (by rfl) T.m_lw_lots_by T.F_lw_lots_by.kp T.b_lw_lots_by .nil (lc_lw_main_L0 _ rfl rfl rfl rfl) (pa_cons (pv 5) (pa_cons (GL.pe_lam (lh_lw_main_L0 _ rfl rfl) TBm rfl hmT huT rfl (by decide +kernel)) pa_nil))))
      (pss_cons (ps_if (pt_not (pt_val (pe_call G_lw_is_room (hr.mono (by decide)) (by rfl) T.m_lw_is_room T.F_lw_is_room.kp T.b_lw_is_room .nil pass0 (pa_cons (pe_call G_tree (hr.mono (by decide)) (by rfl) T.m_tree T.F_tree.kp T.b_tree .nil pass0 (pa_cons (pv 4) pa_nil)) (pa_cons (pv 5) (pa_cons (pv 7) pa_nil)))))) (pss_one (ps_ret pe_bl)) pss_nil)
      (pss_cons (ps_if (pt_not (pt_val (pe_call G_lw_is_room (hr.mono (by decide)) (by rfl) T.m_lw_is_room T.F_lw_is_room.kp T.b_lw_is_room .nil pass0 (pa_cons (pe_call G_tree (hr.mono (by decide)) (by rfl) T.m_tree T.F_tree.kp T.b_tree .nil pass0 (pa_cons (pe_callTy call_tuple_of (by rfl) T.n_tuple (by decide +kernel) (pa_cons (pv 4) pa_nil)) pa_nil)) (pa_cons (pv 5) (pa_cons (pv 7) pa_nil)))))) (pss_one (ps_ret pe_bl)) pss_nil)
      (pss_one (ps_if (PW.pt (pw_or (pt_cmpR (op_neD hr.units) (pv 4) (pv 6) (nomark _)) (pw_or1 (pt_cmpR (op_neD hr.units) (pe_call G_stuck (hr.mono (by decide)) (by rfl) T.m_stuck T.F_stuck.kp T.b_stuck .nil pass0 (pa_cons (pe_call G_tree (hr.mono (by decide)) (by rfl) T.m_tree T.F_tree.kp T.b_tree .nil pass0 (pa_cons (pv 4) pa_nil)) pa_nil)) (pe_tup pa_nil) (nomark _))))) (pss_one (ps_ret pe_bl)) pss_nil)))))))))))
      (pss_one (ps_ret (pe_cmpR (op_eqD hr.units) (pe_call G_lots (hr.mono (by decide)) (by rfl) T.m_lots T.F_lots.kp T.b_lots .nil pass0 (pa_cons (pe_call G_tree (hr.mono (by decide)) (by rfl) T.m_tree T.F_tree.kp T.b_tree .nil pass0 (pa_cons (pe_lst pa_nil) pa_nil)) pa_nil)) (pe_tup (pa_cons (pe_tup pa_nil) pa_nil)) (nomark _))))), GL.entT (n := 9) sq tb ne rfl fin ?_⟩
    walk_at "ent"
    refine GL.xst_seq <| GL.xst_for (vs := [1]) (fun _ _ _ => trivial) (xi_rng1 ?_)
    walk_at "xs"
    refine ⟨fun i δ => ∃ s1 s2 s3 s4 s5 s6 s7 : S, δ = [.d (.scr scr), s1, s2, s3, s4, s5, s6, s7, .no, .no], ⟨_, _, _, _, _, _, _, rfl⟩, ?_, ?_⟩
    · rintro i d δ1 hi ⟨s1, s2, s3, s4, s5, s6, s7, rfl⟩
      obtain ⟨hi', rfl⟩ := rng_at hi
      have hi3 : i < 2 := by
        refine Nat.lt_of_lt_of_le hi' ?_
        split
        · split <;> omega
        · omega
      refine xg_name (by decide) (by decide) ?_
      try dsimp only [List.set]
      refine GL.xst_s (fun _ _ _ => trivial) <| xs_setD (by decide) <| xr_call (fun _ => .nil) <| xa_cons <| xe_var rfl <| xa_cons <| xe_var rfl <| xa_nil ⟨scr, 0 + (i : Int), rfl, hl, by omega, by omega, fun qa y hy => ⟨qa, y.cs, y.n, rfl, by simp, ?_⟩⟩
      try dsimp only [List.set]
      refine GL.xst_for (vs := [3]) (fun _ _ _ => trivial) <| xi_rng1 <| xe_int ⟨_, rfl, by omega, by omega, ?_⟩
      refine ⟨fun t δ => ∃ (y : Dl) (s3 s4 s5 s6 s7 : S), δ = [.d (.scr scr), .d (.int (0 + i)), .deal qa y.cs y.n, s3, s4, s5, s6, s7, .no, .no] ∧ DealD y, ⟨y, _, _, _, _, _, rfl, hy⟩, ?_, ?_⟩
      · rintro t d δ2 ht ⟨y, s3, s4, s5, s6, s7, rfl, hy⟩
        refine xg_name (by decide) (by decide) ?_
        try dsimp only [List.set]
        refine GL.xst_s (fun _ _ _ => trivial) <| xs_set (by decide) <| xe_ofO <| xr_callD (i := 2) (fun _ => .nil) ⟨_, _, _, rfl⟩ <| xa_cons <| xe_ofO <| xr_callD (i := 2) (fun _ => .nil) ⟨_, _, _, rfl⟩ <| xa_cons <| xe_I0 <| xe_int <| xr_callD (i := 2) (fun _ => .nil) ⟨_, _, _, rfl⟩ <| xa_cons <| xe_int <| xa_nil ⟨qa, y, rfl, 6, rfl, by decide, by decide, hy, fun c y1 c0 c6 hy1 => on_d ⟨_, _, rfl, rfl, xa_nil ⟨qa, y1, rfl, 2 + c, rfl, by omega, by omega, hy1, fun ns y2 nd np nl hy2 => on_o ⟨_, rfl, xa_nil ⟨qa, y2, rfl, ns, rfl, by omega, by omega, nd, np, hy2, fun es y3 ein el low hy3 => on_o ⟨_, rfl, ?_⟩⟩⟩⟩⟩⟩
        try dsimp only [List.set]
        have n7 : ns.length ≤ 7 := by omega
        have sok : StrOkE es := fun e he => ⟨(pool_ok _ (np _ (ein e he).1)).2.2, (pool_ok _ (np _ (ein e he).2.1)).2.2⟩
        have eok := edsOk ein np (by omega)
        have efew := edsFew ein n7
        refine GL.xst_s (fun _ _ _ => trivial) <| xs_par (by decide) (by decide) <| xe_ofO <| xr_call (fun _ => .nil) <| xa_cons <| xe_var rfl <| xa_nil ⟨es, rfl, by omega, fun us hu => on_o ⟨_, rfl, xe_ofO <| xo_list <| xe_var rfl ⟨_, .inl rfl, _, rfl, ?_⟩⟩⟩
        try dsimp only [List.set]
        have u7 := efew us hu
        have uin : ∀ x ∈ ends es, x ∈ us := fun x hx => (hu.mem x).mpr hx
        have uok : ∀ x ∈ us, PyData.strOk x = true := fun x hx => (eok.end' ((hu.mem x).mp hx)).2
        have fok := frJ_ok uin
        refine GL.xst_seq <| GL.xst_set (by decide) <| GL.xrt_callLam (k := 0) rfl rfl <| GL.XR.toT <| xe_var rfl ⟨[.lst (es.map edD)], rfl, fun i j h => ?_, us, [.lst (es.map edD)], FrJ es, rfl, ?_, fok, GS.Asc.nodup hu.asc, u7, uok, fun l x xin xl l7 Φ' k => ⟨es, x, l, rfl, by omega, fun z hz => (hz.ne eok).symm, fun b hb => k b (hb.trans ?_)⟩, fun ls l128 dl => ⟨?_, on_d ?_⟩⟩
        · cases i with
          | zero => cases h; exact ⟨_, rfl, rfl⟩
          | succ i => simp at h
        · exact noX_eds es
        · exact ⟨fun h => ⟨(hu.mem x).mp xin, xl, fun u v a b c d ne => absurd (h u v a b c d) ne⟩, fun h u v a b c d => Classical.byContradiction fun ne => low_tri low a c ne (h.2.2 u v a b c d ne)⟩
        · exact noX_due _ _
        try dsimp only [List.set]
        generalize hdu : dicTD (ls.map fun l => (keyT l, D.lst ((frF (FrJ es) us l).map .str))) = du
        have told : ∀ {o1 : List Rl} {n1 : List Str}, TakeR es o1 n1 → ∀ {Φ : S → Prop}, Φ (.d (.bl true)) → F_is_room [roomF o1 n1, .lst (us.map .str), du] Φ := fun {o1 n1} t1 {Φ} k =>
          hdu ▸ told_gen t1.few t1.rok (fun x => (hu.mem x).trans (t1.ns x).symm) hu.asc uok fok (take_frJ t1) l128 dl k
        refine GL.XS.toT (fun _ _ _ => trivial) ?_
        refine xs_seq <| xs_if <| xt_not <| xt_test <| xr_call (fun _ => .nil) <| xa_cons <| xr_call (fun _ => .nil) <| xa_cons <| xe_var rfl <| xa_nil ⟨es, _, rfl, .inl rfl, eok, low.acy, efew, fun o1 n1 t1 => on_d <| xa_cons <| xe_var rfl <| xa_cons <| xe_var rfl <| xa_nil (told t1 (on_d ⟨_, rfl, if_nt <| xs_next ?_⟩))⟩
        refine xs_seq <| xs_if <| xt_not <| xt_test <| xr_call (fun _ => .nil) <| xa_cons <| xr_call (fun _ => .nil) <| xa_cons <| xe_tuple <| xe_var rfl ⟨_, .inl rfl, xa_nil ⟨es, _, rfl, .inr rfl, eok, low.acy, efew, fun o2 n2 t2 => on_d <| xa_cons <| xe_var rfl <| xa_cons <| xe_var rfl <| xa_nil (told t2 (on_d ⟨_, rfl, if_nt <| xs_next ?_⟩))⟩⟩
        refine xs_if <| xt_or <| xt_test <| xe_neD <| xe_var rfl <| xe_var rfl ⟨pla_eds es, pla_eds es, shp_eds (.inl rfl) sok, shp_eds (.inl rfl) sok, _, rfl, ?_⟩
        rw [PySem.SeqAt.eqv_refl _ (pl_eds sok)]
        refine if_nt <| xt_test <| xe_neD <| xr_call (fun _ => .nil) <| xa_cons <| xe_wkR <| xr_call (fun _ => .nil) <| xa_cons <| xe_var rfl <| xa_nil ⟨es, _, rfl, .inl rfl, eok, low.acy, efew, fun o3 n3 t3 => on_d ⟨_, _, rfl, xa_nil ⟨o3, n3, rfl, t3.rok, fun hs hh => on_d ?_⟩⟩⟩
        rw [low_free low t3 hh]
        refine xe_tup <| xa_nil ⟨by simp, rfl, rfl, by decide +kernel, by decide +kernel, _, rfl, ?_⟩
        rw [show PyData.eqv (py (D.tup (([] : List Str).map .str))) (py (.tup [])) = true from by decide +kernel]
        exact if_nt <| xs_next ⟨y3, _, _, _, _, _, rfl, hy3⟩
      · rintro δ2 ⟨y, s3, s4, s5, s6, s7, rfl, hy⟩
        exact ⟨_, _, _, _, _, _, _, rfl⟩
    · rintro δ1 ⟨s1, s2, s3, s4, s5, s6, s7, rfl⟩
      refine GL.XS.toT (fun _ _ _ => trivial) ?_
      refine xs_ret <| xe_eqD <| xr_call (fun _ => .nil) <| xa_cons <| xr_call (fun _ => .nil) <| xa_cons <| xe_ofO <| xo_lst <| xa_nil ⟨by simp, _, rfl, xa_nil ⟨[], _, rfl, .inl rfl, ⟨by simp, fun e he => (nomatch he), fun e he => (nomatch he)⟩, fun i x y h => by simp at h, fun ns hn => ?_, fun o1 n1 t1 => on_d <| xa_nil ⟨o1, n1, rfl, t1.few, fun ms nd m128 srt mm => on_d ?_⟩⟩⟩
      · have : ns = [] := List.eq_nil_iff_forall_not_mem.mpr fun x hx => by simpa [ends] using (hn.mem x).mp hx
        rw [this]; simp
      rw [lots_none rfl t1 nd mm]
      refine xe_tup <| xa_cons <| xe_tup <| xa_nil ⟨by simp, xa_nil ⟨by simp, rfl, rfl, by decide +kernel, by decide +kernel, ?_⟩⟩
      rw [show PyData.eqv (py (D.tup ([([] : List Str)].map fun l : List Str => D.tupT (l.map .str)))) (py (.tup [.tup []])) = true from by decide +kernel]
theorem ok_main (T : Txt K mg a) {cA PA : Addr} (hcA : a.fd_lw_main.code = .ref cA) (TBm : LamX.TabB base mg cA PA) : FnOk P w K mg base CX0 8 a.f_lw_main a.fd_lw_main ["_law_script"] (GL.spLawT (ZZ K a) [(PA, lS_lw_main_L0.q)]) := by
  have t := ok_draw (P := P) (w := w) (base := base) T
  have i1 := ok_is_name (P := P) (w := w) (base := base) T
  have i2 := ok_is_sequence (P := P) (w := w) (base := base) T
  have i3 := ok_are_names T i1 i2
  have l2 := ok_lot_of (P := P) (w := w) (base := base) T
  have lF := ok_lot_ofF (P := P) (w := w) (base := base) T
  have rn := ok_Rule_initN (ok_Rule_initX T i1 i3 l2)
  have ro := ok_Room_initF T i2 lF
  have bo := ok_bits_of (P := P) (w := w) (base := base) T
  have nm := ok_names_of (P := P) (w := w) (base := base) T
  have la := ok_lots_after T bo
  have lo := ok_plots T la nm
  have un := ok_are_unlike T i3
  have mf := ok_may T (ok_is_fulfilled T) l2
  have le := ok_least (P := P) (w := w) (base := base) T (ok_ones T) (ok_has_one T)
  have kb := ok_kept_by T lF bo nm le rn ro
  have to := ok_tuple_of (P := P) (w := w) (base := base) T
  have jn := ok_are_joined (P := P) (w := w) (base := base) T
  have ce := ok_check_edges (ok_check_edgesX T i2 to un)
  have ta := ok_taken T ce l2 (ok_unjoined T jn) kb
  have tr := ok_tree (ok_treeX T ce (ok_ring_at T jn) ta)
  have ot := ok_others (P := P) (w := w) (base := base) T
  have lv := ok_leavers T mf
  have st := ok_stuck T (ok_hull T ot lv)
  have mi := ok_mixed T t
  have pi := ok_pick3 T t
  have na := ok_names3 T t
  exact ok_law T hcA TBm (ok_deal T) t na (ok_forest T t mi pi) (ok_corners T) (ok_lots_by T (ok_lam T (ok_beside T)) (ok_with3 T)) (ok_is_room T mf lo) tr st lo
end
theorem all_mk {l : PySem.W.OpenLaw} {w : World} {K : PySem.W.Frag} {h : Heap} {mg : Str → Option Value} {fa : Addr} (X : K.In h) (G : h.Ns mainGlobals mg) (hfa : mg "law" = some (.ref fa))
    {C_Rule : Addr}
    {C_Room : Addr}
    {C_InvalidDrawing R0_InvalidDrawing : Addr} {nm_InvalidDrawing q_InvalidDrawing : Str} {N_InvalidDrawing : Addr} {bs_InvalidDrawing : List Value} {sn_InvalidDrawing : List Str} {sub_InvalidDrawing : List Value} {ab_InvalidDrawing : Bool} {col_InvalidDrawing : Option Bool} {dd_InvalidDrawing : Option Addr} {m0_InvalidDrawing m1_InvalidDrawing m2_InvalidDrawing m3_InvalidDrawing m5_InvalidDrawing : Option Value}
    {C_InvalidRule R0_InvalidRule : Addr} {nm_InvalidRule q_InvalidRule : Str} {N_InvalidRule : Addr} {bs_InvalidRule : List Value} {sn_InvalidRule : List Str} {sub_InvalidRule : List Value} {ab_InvalidRule : Bool} {col_InvalidRule : Option Bool} {dd_InvalidRule : Option Addr} {m0_InvalidRule m1_InvalidRule m2_InvalidRule m3_InvalidRule m5_InvalidRule : Option Value}
    {f_is_int : Addr} {od_is_int an_is_int : Option Addr} {sl_is_int : Array (Option Value)} {oc_is_int kV_is_int dc_is_int pm_is_int cd_is_int ct_is_int : Value}
    {f_is_index : Addr} {od_is_index an_is_index : Option Addr} {sl_is_index : Array (Option Value)} {oc_is_index kV_is_index dc_is_index pm_is_index cd_is_index ct_is_index : Value}
    {f_is_name : Addr} {od_is_name an_is_name : Option Addr} {sl_is_name : Array (Option Value)} {oc_is_name kV_is_name dc_is_name pm_is_name cd_is_name ct_is_name : Value}
    {f_is_sequence : Addr} {od_is_sequence an_is_sequence : Option Addr} {sl_is_sequence : Array (Option Value)} {oc_is_sequence kV_is_sequence dc_is_sequence pm_is_sequence cd_is_sequence ct_is_sequence : Value}
    {f_are_names : Addr} {od_are_names an_are_names : Option Addr} {sl_are_names : Array (Option Value)} {oc_are_names kV_are_names dc_are_names pm_are_names cd_are_names ct_are_names : Value}
    {f_are_unlike : Addr} {od_are_unlike an_are_unlike : Option Addr} {sl_are_unlike : Array (Option Value)} {oc_are_unlike kV_are_unlike dc_are_unlike pm_are_unlike cd_are_unlike ct_are_unlike : Value}
    {f_lot_of : Addr} {od_lot_of an_lot_of : Option Addr} {sl_lot_of : Array (Option Value)} {oc_lot_of kV_lot_of dc_lot_of pm_lot_of cd_lot_of ct_lot_of : Value}
    {f_bits_of : Addr} {od_bits_of an_bits_of : Option Addr} {sl_bits_of : Array (Option Value)} {oc_bits_of kV_bits_of dc_bits_of pm_bits_of cd_bits_of ct_bits_of : Value}
    {f_names_of : Addr} {od_names_of an_names_of : Option Addr} {sl_names_of : Array (Option Value)} {oc_names_of kV_names_of dc_names_of pm_names_of cd_names_of ct_names_of : Value}
    {f_InvalidRule_init : Addr} {od_InvalidRule_init an_InvalidRule_init : Option Addr} {sl_InvalidRule_init : Array (Option Value)} {oc_InvalidRule_init kV_InvalidRule_init dc_InvalidRule_init pm_InvalidRule_init cd_InvalidRule_init ct_InvalidRule_init : Value}
    {f_InvalidDrawing_init : Addr} {od_InvalidDrawing_init an_InvalidDrawing_init : Option Addr} {sl_InvalidDrawing_init : Array (Option Value)} {oc_InvalidDrawing_init kV_InvalidDrawing_init dc_InvalidDrawing_init pm_InvalidDrawing_init cd_InvalidDrawing_init ct_InvalidDrawing_init : Value}
    {f_may : Addr} {od_may an_may : Option Addr} {sl_may : Array (Option Value)} {oc_may kV_may dc_may pm_may cd_may ct_may : Value}
    {f_is_fulfilled : Addr} {od_is_fulfilled an_is_fulfilled : Option Addr} {sl_is_fulfilled : Array (Option Value)} {oc_is_fulfilled kV_is_fulfilled dc_is_fulfilled pm_is_fulfilled cd_is_fulfilled ct_is_fulfilled : Value}
    {f_lots : Addr} {od_lots an_lots : Option Addr} {sl_lots : Array (Option Value)} {oc_lots kV_lots dc_lots pm_lots cd_lots ct_lots : Value}
    {f_lots_after : Addr} {od_lots_after an_lots_after : Option Addr} {sl_lots_after : Array (Option Value)} {oc_lots_after kV_lots_after dc_lots_after pm_lots_after cd_lots_after ct_lots_after : Value}
    {f_others : Addr} {od_others an_others : Option Addr} {sl_others : Array (Option Value)} {oc_others kV_others dc_others pm_others cd_others ct_others : Value}
    {f_leavers : Addr} {od_leavers an_leavers : Option Addr} {sl_leavers : Array (Option Value)} {oc_leavers kV_leavers dc_leavers pm_leavers cd_leavers ct_leavers : Value}
    {T_leavers e_leavers : Addr} {oT_leavers : Value} {dT_leavers dE_leavers : Option Addr} {nT_leavers nE_leavers : Nat} {sT_leavers sE_leavers : Array (Option Value)}
    {f_stuck : Addr} {od_stuck an_stuck : Option Addr} {sl_stuck : Array (Option Value)} {oc_stuck kV_stuck dc_stuck pm_stuck cd_stuck ct_stuck : Value}
    {f_hull : Addr} {od_hull an_hull : Option Addr} {sl_hull : Array (Option Value)} {oc_hull kV_hull dc_hull pm_hull cd_hull ct_hull : Value}
    {f_Rule_init : Addr} {od_Rule_init an_Rule_init : Option Addr} {sl_Rule_init : Array (Option Value)} {oc_Rule_init kV_Rule_init dc_Rule_init pm_Rule_init cd_Rule_init ct_Rule_init : Value}
    {T_Rule_init e_Rule_init : Addr} {oT_Rule_init : Value} {dT_Rule_init dE_Rule_init : Option Addr} {nT_Rule_init nE_Rule_init : Nat} {sT_Rule_init sE_Rule_init : Array (Option Value)}
    {f_Rule_eq : Addr} {od_Rule_eq an_Rule_eq : Option Addr} {sl_Rule_eq : Array (Option Value)} {oc_Rule_eq kV_Rule_eq dc_Rule_eq pm_Rule_eq cd_Rule_eq ct_Rule_eq : Value}
    {f_Rule_str : Addr} {od_Rule_str an_Rule_str : Option Addr} {sl_Rule_str : Array (Option Value)} {oc_Rule_str kV_Rule_str dc_Rule_str pm_Rule_str cd_Rule_str ct_Rule_str : Value}
    {f_read_rule : Addr} {od_read_rule an_read_rule : Option Addr} {sl_read_rule : Array (Option Value)} {oc_read_rule kV_read_rule dc_read_rule pm_read_rule cd_read_rule ct_read_rule : Value}
    {f_Room_init : Addr} {od_Room_init an_Room_init : Option Addr} {sl_Room_init : Array (Option Value)} {oc_Room_init kV_Room_init dc_Room_init pm_Room_init cd_Room_init ct_Room_init : Value}
    {T_Room_init e_Room_init : Addr} {oT_Room_init : Value} {dT_Room_init dE_Room_init : Option Addr} {nT_Room_init nE_Room_init : Nat} {sT_Room_init sE_Room_init : Array (Option Value)}
    {f_Room_read : Addr} {od_Room_read an_Room_read : Option Addr} {sl_Room_read : Array (Option Value)} {oc_Room_read kV_Room_read dc_Room_read pm_Room_read cd_Room_read ct_Room_read : Value}
    {p_Room_read : Addr} {pr_Room_read : List Value}
    {f_Room_without : Addr} {od_Room_without an_Room_without : Option Addr} {sl_Room_without : Array (Option Value)} {oc_Room_without kV_Room_without dc_Room_without pm_Room_without cd_Room_without ct_Room_without : Value}
    {f_Room_len : Addr} {od_Room_len an_Room_len : Option Addr} {sl_Room_len : Array (Option Value)} {oc_Room_len kV_Room_len dc_Room_len pm_Room_len cd_Room_len ct_Room_len : Value}
    {f_Room_getitem : Addr} {od_Room_getitem an_Room_getitem : Option Addr} {sl_Room_getitem : Array (Option Value)} {oc_Room_getitem kV_Room_getitem dc_Room_getitem pm_Room_getitem cd_Room_getitem ct_Room_getitem : Value}
    {f_Room_add : Addr} {od_Room_add an_Room_add : Option Addr} {sl_Room_add : Array (Option Value)} {oc_Room_add kV_Room_add dc_Room_add pm_Room_add cd_Room_add ct_Room_add : Value}
    {f_Room_eq : Addr} {od_Room_eq an_Room_eq : Option Addr} {sl_Room_eq : Array (Option Value)} {oc_Room_eq kV_Room_eq dc_Room_eq pm_Room_eq cd_Room_eq ct_Room_eq : Value}
    {f_Room_str : Addr} {od_Room_str an_Room_str : Option Addr} {sl_Room_str : Array (Option Value)} {oc_Room_str kV_Room_str dc_Room_str pm_Room_str cd_Room_str ct_Room_str : Value}
    {f_least_meeting : Addr} {od_least_meeting an_least_meeting : Option Addr} {sl_least_meeting : Array (Option Value)} {oc_least_meeting kV_least_meeting dc_least_meeting pm_least_meeting cd_least_meeting ct_least_meeting : Value}
    {f_ones_of : Addr} {od_ones_of an_ones_of : Option Addr} {sl_ones_of : Array (Option Value)} {oc_ones_of kV_ones_of dc_ones_of pm_ones_of cd_ones_of ct_ones_of : Value}
    {f_has_one_of : Addr} {od_has_one_of an_has_one_of : Option Addr} {sl_has_one_of : Array (Option Value)} {oc_has_one_of kV_has_one_of dc_has_one_of pm_has_one_of cd_has_one_of ct_has_one_of : Value}
    {f_tree : Addr} {od_tree an_tree : Option Addr} {sl_tree : Array (Option Value)} {oc_tree kV_tree dc_tree pm_tree cd_tree ct_tree : Value}
    {f_taken_down : Addr} {od_taken_down an_taken_down : Option Addr} {sl_taken_down : Array (Option Value)} {oc_taken_down kV_taken_down dc_taken_down pm_taken_down cd_taken_down ct_taken_down : Value}
    {f_check_edges : Addr} {od_check_edges an_check_edges : Option Addr} {sl_check_edges : Array (Option Value)} {oc_check_edges kV_check_edges dc_check_edges pm_check_edges cd_check_edges ct_check_edges : Value}
    {f_is_tuple_of : Addr} {od_is_tuple_of an_is_tuple_of : Option Addr} {sl_is_tuple_of : Array (Option Value)} {oc_is_tuple_of kV_is_tuple_of dc_is_tuple_of pm_is_tuple_of cd_is_tuple_of ct_is_tuple_of : Value}
    {f_ring_at : Addr} {od_ring_at an_ring_at : Option Addr} {sl_ring_at : Array (Option Value)} {oc_ring_at kV_ring_at dc_ring_at pm_ring_at cd_ring_at ct_ring_at : Value}
    {f_are_joined : Addr} {od_are_joined an_are_joined : Option Addr} {sl_are_joined : Array (Option Value)} {oc_are_joined kV_are_joined dc_are_joined pm_are_joined cd_are_joined ct_are_joined : Value}
    {f_unjoined_beside : Addr} {od_unjoined_beside an_unjoined_beside : Option Addr} {sl_unjoined_beside : Array (Option Value)} {oc_unjoined_beside kV_unjoined_beside dc_unjoined_beside pm_unjoined_beside cd_unjoined_beside ct_unjoined_beside : Value}
    {f_room_kept_by : Addr} {od_room_kept_by an_room_kept_by : Option Addr} {sl_room_kept_by : Array (Option Value)} {oc_room_kept_by kV_room_kept_by dc_room_kept_by pm_room_kept_by cd_room_kept_by ct_room_kept_by : Value}
    {f_lw_forest : Addr} {od_lw_forest an_lw_forest : Option Addr} {sl_lw_forest : Array (Option Value)} {oc_lw_forest kV_lw_forest dc_lw_forest pm_lw_forest cd_lw_forest ct_lw_forest : Value}
    {f_lw_corners : Addr} {od_lw_corners an_lw_corners : Option Addr} {sl_lw_corners : Array (Option Value)} {oc_lw_corners kV_lw_corners dc_lw_corners pm_lw_corners cd_lw_corners ct_lw_corners : Value}
    {f_lw_beside : Addr} {od_lw_beside an_lw_beside : Option Addr} {sl_lw_beside : Array (Option Value)} {oc_lw_beside kV_lw_beside dc_lw_beside pm_lw_beside cd_lw_beside ct_lw_beside : Value}
    {f_lw_lots_by : Addr} {od_lw_lots_by an_lw_lots_by : Option Addr} {sl_lw_lots_by : Array (Option Value)} {oc_lw_lots_by kV_lw_lots_by dc_lw_lots_by pm_lw_lots_by cd_lw_lots_by ct_lw_lots_by : Value}
    {f_lw_is_room : Addr} {od_lw_is_room an_lw_is_room : Option Addr} {sl_lw_is_room : Array (Option Value)} {oc_lw_is_room kV_lw_is_room dc_lw_is_room pm_lw_is_room cd_lw_is_room ct_lw_is_room : Value}
    {f_lw_deal : Addr} {od_lw_deal an_lw_deal : Option Addr} {sl_lw_deal : Array (Option Value)} {oc_lw_deal kV_lw_deal dc_lw_deal pm_lw_deal cd_lw_deal ct_lw_deal : Value}
    {f_lw_draw : Addr} {od_lw_draw an_lw_draw : Option Addr} {sl_lw_draw : Array (Option Value)} {oc_lw_draw kV_lw_draw dc_lw_draw pm_lw_draw cd_lw_draw ct_lw_draw : Value}
    {f_lw_pick : Addr} {od_lw_pick an_lw_pick : Option Addr} {sl_lw_pick : Array (Option Value)} {oc_lw_pick kV_lw_pick dc_lw_pick pm_lw_pick cd_lw_pick ct_lw_pick : Value}
    {f_lw_mixed : Addr} {od_lw_mixed an_lw_mixed : Option Addr} {sl_lw_mixed : Array (Option Value)} {oc_lw_mixed kV_lw_mixed dc_lw_mixed pm_lw_mixed cd_lw_mixed ct_lw_mixed : Value}
    {f_lw_names : Addr} {od_lw_names an_lw_names : Option Addr} {sl_lw_names : Array (Option Value)} {oc_lw_names kV_lw_names dc_lw_names pm_lw_names cd_lw_names ct_lw_names : Value}
    {f_lw_with : Addr} {od_lw_with an_lw_with : Option Addr} {sl_lw_with : Array (Option Value)} {oc_lw_with kV_lw_with dc_lw_with pm_lw_with cd_lw_with ct_lw_with : Value}
    {f_lw_main : Addr} {od_lw_main an_lw_main : Option Addr} {sl_lw_main : Array (Option Value)} {oc_lw_main kV_lw_main dc_lw_main pm_lw_main cd_lw_main ct_lw_main : Value}
    {tk_LETTERS : Tok}
    (aC_Rule : PySem.W.nsIn K mainGlobals "Rule" = some (some (.ref C_Rule)))
    (pg_Rule : PySem.W.plainGet K C_Rule Str.empty = true)
    (hd_Rule : PySem.W.hasDictIn K C_Rule = true)
    (po_Rule : PySem.W.plainOver K C_Rule = true)
    (sa_Rule : PySem.W.findIn K (.ref C_Rule) "__setattr__" = some (some (.builtin "object.__setattr__")))
    (mk_Rule : PySem.W.makesIn K C_Rule = true)
    (kc_Rule : PySem.W.keepIn K (.ref C_Rule) = true)
    (no_Rule_name : PySem.W.findIn K (.ref C_Rule) "name" = some none)
    (no_Rule_gone : PySem.W.findIn K (.ref C_Rule) "gone" = some none)
    (ha_Rule : PySem.W.findIn K (.ref C_Rule) "__class__" = some (some (.builtin "object.__class__")))
    (hn_Rule : PySem.W.specialIn K (.builtin "object.__class__") "__get__" = some (some (.builtin "getset_descriptor.__get__")))
    (htk_Rule : PySem.W.takesIn K (.builtin "object.__class__") = some true)
    (hm_Rule : PySem.W.mroIn K C_Rule (.type "object") = some true)
    (nd_Rule : PySem.W.findIn K (.ref C_Rule) "__ne__" = some (some (.builtin "object.__ne__")))
    (sx_Rule : PySem.W.subIn K (.type "str") (.ref C_Rule) = some false)
    (aC_Room : PySem.W.nsIn K mainGlobals "Room" = some (some (.ref C_Room)))
    (pg_Room : PySem.W.plainGet K C_Room Str.empty = true)
    (hd_Room : PySem.W.hasDictIn K C_Room = true)
    (po_Room : PySem.W.plainOver K C_Room = true)
    (sa_Room : PySem.W.findIn K (.ref C_Room) "__setattr__" = some (some (.builtin "object.__setattr__")))
    (mk_Room : PySem.W.makesIn K C_Room = true)
    (kc_Room : PySem.W.keepIn K (.ref C_Room) = true)
    (no_Room_rules : PySem.W.findIn K (.ref C_Room) "rules" = some none)
    (no_Room_names : PySem.W.findIn K (.ref C_Room) "names" = some none)
    (ha_Room : PySem.W.findIn K (.ref C_Room) "__class__" = some (some (.builtin "object.__class__")))
    (hn_Room : PySem.W.specialIn K (.builtin "object.__class__") "__get__" = some (some (.builtin "getset_descriptor.__get__")))
    (htk_Room : PySem.W.takesIn K (.builtin "object.__class__") = some true)
    (hm_Room : PySem.W.mroIn K C_Room (.type "object") = some true)
    (aC_InvalidDrawing : PySem.W.nsIn K mainGlobals "InvalidDrawing" = some (some (.ref C_InvalidDrawing)))
    (xL_InvalidDrawing : K.lookup C_InvalidDrawing = some (excClassObj nm_InvalidDrawing q_InvalidDrawing C_InvalidDrawing N_InvalidDrawing bs_InvalidDrawing [.ref R0_InvalidDrawing, .type "ValueError", .type "Exception", .type "BaseException", .type "object"] true sn_InvalidDrawing sub_InvalidDrawing ab_InvalidDrawing col_InvalidDrawing dd_InvalidDrawing m0_InvalidDrawing m1_InvalidDrawing m2_InvalidDrawing m3_InvalidDrawing m5_InvalidDrawing "ValueError.__new__"))
    (aC_InvalidRule : PySem.W.nsIn K mainGlobals "InvalidRule" = some (some (.ref C_InvalidRule)))
    (xL_InvalidRule : K.lookup C_InvalidRule = some (excClassObj nm_InvalidRule q_InvalidRule C_InvalidRule N_InvalidRule bs_InvalidRule [.ref R0_InvalidRule, .type "ValueError", .type "Exception", .type "BaseException", .type "object"] true sn_InvalidRule sub_InvalidRule ab_InvalidRule col_InvalidRule dd_InvalidRule m0_InvalidRule m1_InvalidRule m2_InvalidRule m3_InvalidRule m5_InvalidRule "ValueError.__new__"))
    (sb_NoneType_Room : PySem.W.subIn K (.type "NoneType") (.ref C_Room) = some false)
    (sb_bool_Room : PySem.W.subIn K (.type "bool") (.ref C_Room) = some false)
    (sb_int_Room : PySem.W.subIn K (.type "int") (.ref C_Room) = some false)
    (sb_str_Room : PySem.W.subIn K (.type "str") (.ref C_Room) = some false)
    (sb_list_Room : PySem.W.subIn K (.type "list") (.ref C_Room) = some false)
    (sb_tuple_Room : PySem.W.subIn K (.type "tuple") (.ref C_Room) = some false)
    (so_Rule_Room : PySem.W.subIn K (.ref C_Rule) (.ref C_Room) = some false)
    (so_Room_Room : PySem.W.subIn K (.ref C_Room) (.ref C_Room) = some true)
    (sb_NoneType_Rule : PySem.W.subIn K (.type "NoneType") (.ref C_Rule) = some false)
    (sb_bool_Rule : PySem.W.subIn K (.type "bool") (.ref C_Rule) = some false)
    (sb_int_Rule : PySem.W.subIn K (.type "int") (.ref C_Rule) = some false)
    (sb_str_Rule : PySem.W.subIn K (.type "str") (.ref C_Rule) = some false)
    (sb_list_Rule : PySem.W.subIn K (.type "list") (.ref C_Rule) = some false)
    (sb_tuple_Rule : PySem.W.subIn K (.type "tuple") (.ref C_Rule) = some false)
    (so_Rule_Rule : PySem.W.subIn K (.ref C_Rule) (.ref C_Rule) = some true)
    (so_Room_Rule : PySem.W.subIn K (.ref C_Room) (.ref C_Rule) = some false)
    (iL_Room : PySem.W.isClsIn K C_Room = true)
    (tL_Room : PySem.W.typeIn K (.ref C_Room) = some (.type "type"))
    (iL_Rule : PySem.W.isClsIn K C_Rule = true)
    (tL_Rule : PySem.W.typeIn K (.ref C_Rule) = some (.type "type"))
    (a_is_int : PySem.W.nsIn K mainGlobals "is_int" = some (some (.ref f_is_int)))
    (l_is_int : K.lookup f_is_int = some ⟨oc_is_int, od_is_int, .func (PySem.W.fnOf "is_int" "is_int" (defArgs s_is_int) (defBody s_is_int) (defScope s_is_int) .none kV_is_int dc_is_int pm_is_int an_is_int cd_is_int ct_is_int), sl_is_int⟩)
    (c_is_int : PySem.W.codeIn K cd_is_int "is_int" = true)
    (k_is_int : PySem.W.keepIn K (.ref f_is_int) = true)
    (a_is_index : PySem.W.nsIn K mainGlobals "is_index" = some (some (.ref f_is_index)))
    (l_is_index : K.lookup f_is_index = some ⟨oc_is_index, od_is_index, .func (PySem.W.fnOf "is_index" "is_index" (defArgs s_is_index) (defBody s_is_index) (defScope s_is_index) .none kV_is_index dc_is_index pm_is_index an_is_index cd_is_index ct_is_index), sl_is_index⟩)
    (c_is_index : PySem.W.codeIn K cd_is_index "is_index" = true)
    (k_is_index : PySem.W.keepIn K (.ref f_is_index) = true)
    (a_is_name : PySem.W.nsIn K mainGlobals "is_name" = some (some (.ref f_is_name)))
    (l_is_name : K.lookup f_is_name = some ⟨oc_is_name, od_is_name, .func (PySem.W.fnOf "is_name" "is_name" (defArgs s_is_name) (defBody s_is_name) (defScope s_is_name) .none kV_is_name dc_is_name pm_is_name an_is_name cd_is_name ct_is_name), sl_is_name⟩)
    (c_is_name : PySem.W.codeIn K cd_is_name "is_name" = true)
    (k_is_name : PySem.W.keepIn K (.ref f_is_name) = true)
    (a_is_sequence : PySem.W.nsIn K mainGlobals "is_sequence" = some (some (.ref f_is_sequence)))
    (l_is_sequence : K.lookup f_is_sequence = some ⟨oc_is_sequence, od_is_sequence, .func (PySem.W.fnOf "is_sequence" "is_sequence" (defArgs s_is_sequence) (defBody s_is_sequence) (defScope s_is_sequence) .none kV_is_sequence dc_is_sequence pm_is_sequence an_is_sequence cd_is_sequence ct_is_sequence), sl_is_sequence⟩)
    (c_is_sequence : PySem.W.codeIn K cd_is_sequence "is_sequence" = true)
    (k_is_sequence : PySem.W.keepIn K (.ref f_is_sequence) = true)
    (a_are_names : PySem.W.nsIn K mainGlobals "are_names" = some (some (.ref f_are_names)))
    (l_are_names : K.lookup f_are_names = some ⟨oc_are_names, od_are_names, .func (PySem.W.fnOf "are_names" "are_names" (defArgs s_are_names) (defBody s_are_names) (defScope s_are_names) .none kV_are_names dc_are_names pm_are_names an_are_names cd_are_names ct_are_names), sl_are_names⟩)
    (c_are_names : PySem.W.codeIn K cd_are_names "are_names" = true)
    (k_are_names : PySem.W.keepIn K (.ref f_are_names) = true)
    (a_are_unlike : PySem.W.nsIn K mainGlobals "are_unlike" = some (some (.ref f_are_unlike)))
    (l_are_unlike : K.lookup f_are_unlike = some ⟨oc_are_unlike, od_are_unlike, .func (PySem.W.fnOf "are_unlike" "are_unlike" (defArgs s_are_unlike) (defBody s_are_unlike) (defScope s_are_unlike) .none kV_are_unlike dc_are_unlike pm_are_unlike an_are_unlike cd_are_unlike ct_are_unlike), sl_are_unlike⟩)
    (c_are_unlike : PySem.W.codeIn K cd_are_unlike "are_unlike" = true)
    (k_are_unlike : PySem.W.keepIn K (.ref f_are_unlike) = true)
    (a_lot_of : PySem.W.nsIn K mainGlobals "lot_of" = some (some (.ref f_lot_of)))
    (l_lot_of : K.lookup f_lot_of = some ⟨oc_lot_of, od_lot_of, .func (PySem.W.fnOf "lot_of" "lot_of" (defArgs s_lot_of) (defBody s_lot_of) (defScope s_lot_of) .none kV_lot_of dc_lot_of pm_lot_of an_lot_of cd_lot_of ct_lot_of), sl_lot_of⟩)
    (c_lot_of : PySem.W.codeIn K cd_lot_of "lot_of" = true)
    (k_lot_of : PySem.W.keepIn K (.ref f_lot_of) = true)
    (a_bits_of : PySem.W.nsIn K mainGlobals "bits_of" = some (some (.ref f_bits_of)))
    (l_bits_of : K.lookup f_bits_of = some ⟨oc_bits_of, od_bits_of, .func (PySem.W.fnOf "bits_of" "bits_of" (defArgs s_bits_of) (defBody s_bits_of) (defScope s_bits_of) .none kV_bits_of dc_bits_of pm_bits_of an_bits_of cd_bits_of ct_bits_of), sl_bits_of⟩)
    (c_bits_of : PySem.W.codeIn K cd_bits_of "bits_of" = true)
    (k_bits_of : PySem.W.keepIn K (.ref f_bits_of) = true)
    (a_names_of : PySem.W.nsIn K mainGlobals "names_of" = some (some (.ref f_names_of)))
    (l_names_of : K.lookup f_names_of = some ⟨oc_names_of, od_names_of, .func (PySem.W.fnOf "names_of" "names_of" (defArgs s_names_of) (defBody s_names_of) (defScope s_names_of) .none kV_names_of dc_names_of pm_names_of an_names_of cd_names_of ct_names_of), sl_names_of⟩)
    (c_names_of : PySem.W.codeIn K cd_names_of "names_of" = true)
    (k_names_of : PySem.W.keepIn K (.ref f_names_of) = true)
    (a_InvalidRule_init : PySem.W.findIn K (.ref C_InvalidRule) "__init__" = some (some (.ref f_InvalidRule_init)))
    (l_InvalidRule_init : K.lookup f_InvalidRule_init = some ⟨oc_InvalidRule_init, od_InvalidRule_init, .func (PySem.W.fnOf "__init__" "InvalidRule.__init__" (defArgs s_InvalidRule_init) (defBody s_InvalidRule_init) (defScope s_InvalidRule_init) .none kV_InvalidRule_init dc_InvalidRule_init pm_InvalidRule_init an_InvalidRule_init cd_InvalidRule_init ct_InvalidRule_init), sl_InvalidRule_init⟩)
    (c_InvalidRule_init : PySem.W.codeIn K cd_InvalidRule_init "InvalidRule.__init__" = true)
    (k_InvalidRule_init : PySem.W.keepIn K (.ref f_InvalidRule_init) = true)
    (a_InvalidDrawing_init : PySem.W.findIn K (.ref C_InvalidDrawing) "__init__" = some (some (.ref f_InvalidDrawing_init)))
    (l_InvalidDrawing_init : K.lookup f_InvalidDrawing_init = some ⟨oc_InvalidDrawing_init, od_InvalidDrawing_init, .func (PySem.W.fnOf "__init__" "InvalidDrawing.__init__" (defArgs s_InvalidDrawing_init) (defBody s_InvalidDrawing_init) (defScope s_InvalidDrawing_init) .none kV_InvalidDrawing_init dc_InvalidDrawing_init pm_InvalidDrawing_init an_InvalidDrawing_init cd_InvalidDrawing_init ct_InvalidDrawing_init), sl_InvalidDrawing_init⟩)
    (c_InvalidDrawing_init : PySem.W.codeIn K cd_InvalidDrawing_init "InvalidDrawing.__init__" = true)
    (k_InvalidDrawing_init : PySem.W.keepIn K (.ref f_InvalidDrawing_init) = true)
    (a_may : PySem.W.nsIn K mainGlobals "may" = some (some (.ref f_may)))
    (l_may : K.lookup f_may = some ⟨oc_may, od_may, .func (PySem.W.fnOf "may" "may" (defArgs s_may) (defBody s_may) (defScope s_may) .none kV_may dc_may pm_may an_may cd_may ct_may), sl_may⟩)
    (c_may : PySem.W.codeIn K cd_may "may" = true)
    (k_may : PySem.W.keepIn K (.ref f_may) = true)
    (a_is_fulfilled : PySem.W.nsIn K mainGlobals "is_fulfilled" = some (some (.ref f_is_fulfilled)))
    (l_is_fulfilled : K.lookup f_is_fulfilled = some ⟨oc_is_fulfilled, od_is_fulfilled, .func (PySem.W.fnOf "is_fulfilled" "is_fulfilled" (defArgs s_is_fulfilled) (defBody s_is_fulfilled) (defScope s_is_fulfilled) .none kV_is_fulfilled dc_is_fulfilled pm_is_fulfilled an_is_fulfilled cd_is_fulfilled ct_is_fulfilled), sl_is_fulfilled⟩)
    (c_is_fulfilled : PySem.W.codeIn K cd_is_fulfilled "is_fulfilled" = true)
    (k_is_fulfilled : PySem.W.keepIn K (.ref f_is_fulfilled) = true)
    (a_lots : PySem.W.nsIn K mainGlobals "lots" = some (some (.ref f_lots)))
    (l_lots : K.lookup f_lots = some ⟨oc_lots, od_lots, .func (PySem.W.fnOf "lots" "lots" (defArgs s_lots) (defBody s_lots) (defScope s_lots) .none kV_lots dc_lots pm_lots an_lots cd_lots ct_lots), sl_lots⟩)
    (c_lots : PySem.W.codeIn K cd_lots "lots" = true)
    (k_lots : PySem.W.keepIn K (.ref f_lots) = true)
    (a_lots_after : PySem.W.nsIn K mainGlobals "lots_after" = some (some (.ref f_lots_after)))
    (l_lots_after : K.lookup f_lots_after = some ⟨oc_lots_after, od_lots_after, .func (PySem.W.fnOf "lots_after" "lots_after" (defArgs s_lots_after) (defBody s_lots_after) (defScope s_lots_after) .none kV_lots_after dc_lots_after pm_lots_after an_lots_after cd_lots_after ct_lots_after), sl_lots_after⟩)
    (c_lots_after : PySem.W.codeIn K cd_lots_after "lots_after" = true)
    (k_lots_after : PySem.W.keepIn K (.ref f_lots_after) = true)
    (a_others : PySem.W.nsIn K mainGlobals "others" = some (some (.ref f_others)))
    (l_others : K.lookup f_others = some ⟨oc_others, od_others, .func (PySem.W.fnOf "others" "others" (defArgs s_others) (defBody s_others) (defScope s_others) .none kV_others dc_others pm_others an_others cd_others ct_others), sl_others⟩)
    (c_others : PySem.W.codeIn K cd_others "others" = true)
    (k_others : PySem.W.keepIn K (.ref f_others) = true)
    (a_leavers : PySem.W.nsIn K mainGlobals "leavers" = some (some (.ref f_leavers)))
    (l_leavers : K.lookup f_leavers = some ⟨oc_leavers, od_leavers, .func (PySem.W.fnOf "leavers" "leavers" (defArgs s_leavers) (defBody s_leavers) (defScope s_leavers) (.ref T_leavers) kV_leavers dc_leavers pm_leavers an_leavers cd_leavers ct_leavers), sl_leavers⟩)
    (lT_leavers : K.lookup T_leavers = some ⟨oT_leavers, dT_leavers, .seq #[.ref e_leavers] nT_leavers, sT_leavers⟩)
    (lE_leavers : K.lookup e_leavers = some ⟨.type "tuple", dE_leavers, .seq #[] nE_leavers, sE_leavers⟩)
    (c_leavers : PySem.W.codeIn K cd_leavers "leavers" = true)
    (k_leavers : PySem.W.keepIn K (.ref f_leavers) = true)
    (a_stuck : PySem.W.nsIn K mainGlobals "stuck" = some (some (.ref f_stuck)))
    (l_stuck : K.lookup f_stuck = some ⟨oc_stuck, od_stuck, .func (PySem.W.fnOf "stuck" "stuck" (defArgs s_stuck) (defBody s_stuck) (defScope s_stuck) .none kV_stuck dc_stuck pm_stuck an_stuck cd_stuck ct_stuck), sl_stuck⟩)
    (c_stuck : PySem.W.codeIn K cd_stuck "stuck" = true)
    (k_stuck : PySem.W.keepIn K (.ref f_stuck) = true)
    (a_hull : PySem.W.nsIn K mainGlobals "hull" = some (some (.ref f_hull)))
    (l_hull : K.lookup f_hull = some ⟨oc_hull, od_hull, .func (PySem.W.fnOf "hull" "hull" (defArgs s_hull) (defBody s_hull) (defScope s_hull) .none kV_hull dc_hull pm_hull an_hull cd_hull ct_hull), sl_hull⟩)
    (c_hull : PySem.W.codeIn K cd_hull "hull" = true)
    (k_hull : PySem.W.keepIn K (.ref f_hull) = true)
    (a_Rule_init : PySem.W.findIn K (.ref C_Rule) "__init__" = some (some (.ref f_Rule_init)))
    (i_Rule_init : PySem.W.isFn K (.ref f_Rule_init) = true)
    (l_Rule_init : K.lookup f_Rule_init = some ⟨oc_Rule_init, od_Rule_init, .func (PySem.W.fnOf "__init__" "Rule.__init__" (defArgs s_Rule_init) (defBody s_Rule_init) (defScope s_Rule_init) (.ref T_Rule_init) kV_Rule_init dc_Rule_init pm_Rule_init an_Rule_init cd_Rule_init ct_Rule_init), sl_Rule_init⟩)
    (lT_Rule_init : K.lookup T_Rule_init = some ⟨oT_Rule_init, dT_Rule_init, .seq #[.ref e_Rule_init] nT_Rule_init, sT_Rule_init⟩)
    (lE_Rule_init : K.lookup e_Rule_init = some ⟨.type "tuple", dE_Rule_init, .seq #[] nE_Rule_init, sE_Rule_init⟩)
    (c_Rule_init : PySem.W.codeIn K cd_Rule_init "Rule.__init__" = true)
    (k_Rule_init : PySem.W.keepIn K (.ref f_Rule_init) = true)
    (a_Rule_eq : PySem.W.findIn K (.ref C_Rule) "__eq__" = some (some (.ref f_Rule_eq)))
    (i_Rule_eq : PySem.W.isFn K (.ref f_Rule_eq) = true)
    (l_Rule_eq : K.lookup f_Rule_eq = some ⟨oc_Rule_eq, od_Rule_eq, .func (PySem.W.fnOf "__eq__" "Rule.__eq__" (defArgs s_Rule_eq) (defBody s_Rule_eq) (defScope s_Rule_eq) .none kV_Rule_eq dc_Rule_eq pm_Rule_eq an_Rule_eq cd_Rule_eq ct_Rule_eq), sl_Rule_eq⟩)
    (c_Rule_eq : PySem.W.codeIn K cd_Rule_eq "Rule.__eq__" = true)
    (k_Rule_eq : PySem.W.keepIn K (.ref f_Rule_eq) = true)
    (a_Rule_str : PySem.W.findIn K (.ref C_Rule) "__str__" = some (some (.ref f_Rule_str)))
    (i_Rule_str : PySem.W.isFn K (.ref f_Rule_str) = true)
    (l_Rule_str : K.lookup f_Rule_str = some ⟨oc_Rule_str, od_Rule_str, .func (PySem.W.fnOf "__str__" "Rule.__str__" (defArgs s_Rule_str) (defBody s_Rule_str) (defScope s_Rule_str) .none kV_Rule_str dc_Rule_str pm_Rule_str an_Rule_str cd_Rule_str ct_Rule_str), sl_Rule_str⟩)
    (c_Rule_str : PySem.W.codeIn K cd_Rule_str "Rule.__str__" = true)
    (k_Rule_str : PySem.W.keepIn K (.ref f_Rule_str) = true)
    (a_read_rule : PySem.W.nsIn K mainGlobals "read_rule" = some (some (.ref f_read_rule)))
    (l_read_rule : K.lookup f_read_rule = some ⟨oc_read_rule, od_read_rule, .func (PySem.W.fnOf "read_rule" "read_rule" (defArgs s_read_rule) (defBody s_read_rule) (defScope s_read_rule) .none kV_read_rule dc_read_rule pm_read_rule an_read_rule cd_read_rule ct_read_rule), sl_read_rule⟩)
    (c_read_rule : PySem.W.codeIn K cd_read_rule "read_rule" = true)
    (k_read_rule : PySem.W.keepIn K (.ref f_read_rule) = true)
    (a_Room_init : PySem.W.findIn K (.ref C_Room) "__init__" = some (some (.ref f_Room_init)))
    (i_Room_init : PySem.W.isFn K (.ref f_Room_init) = true)
    (l_Room_init : K.lookup f_Room_init = some ⟨oc_Room_init, od_Room_init, .func (PySem.W.fnOf "__init__" "Room.__init__" (defArgs s_Room_init) (defBody s_Room_init) (defScope s_Room_init) (.ref T_Room_init) kV_Room_init dc_Room_init pm_Room_init an_Room_init cd_Room_init ct_Room_init), sl_Room_init⟩)
    (lT_Room_init : K.lookup T_Room_init = some ⟨oT_Room_init, dT_Room_init, .seq #[.ref e_Room_init] nT_Room_init, sT_Room_init⟩)
    (lE_Room_init : K.lookup e_Room_init = some ⟨.type "tuple", dE_Room_init, .seq #[] nE_Room_init, sE_Room_init⟩)
    (c_Room_init : PySem.W.codeIn K cd_Room_init "Room.__init__" = true)
    (k_Room_init : PySem.W.keepIn K (.ref f_Room_init) = true)
    (cmf_Room_read : PySem.W.findCls K (.ref C_Room) (.type "type") "read" = some (.get (.builtin "classmethod.__get__") (.ref p_Room_read) .none (.ref C_Room)))
    (cmr_Room_read : PySem.W.recIn K p_Room_read "classmethod" = some (.ref f_Room_read :: pr_Room_read))
    (cmi_Room_read : PySem.W.fnIn K f_Room_read = true)
    (crd_Room : PySem.W.readsIn K C_Room (.type "type") = true)
    (cga_Room : PySem.W.specialIn K (.ref C_Room) "__getattribute__" = some (some (.builtin "type.__getattribute__")))
    (l_Room_read : K.lookup f_Room_read = some ⟨oc_Room_read, od_Room_read, .func (PySem.W.fnOf "read" "Room.read" (defArgs s_Room_read) (defBody s_Room_read) (defScope s_Room_read) .none kV_Room_read dc_Room_read pm_Room_read an_Room_read cd_Room_read ct_Room_read), sl_Room_read⟩)
    (c_Room_read : PySem.W.codeIn K cd_Room_read "Room.read" = true)
    (k_Room_read : PySem.W.keepIn K (.ref f_Room_read) = true)
    (a_Room_without : PySem.W.findIn K (.ref C_Room) "without" = some (some (.ref f_Room_without)))
    (i_Room_without : PySem.W.isFn K (.ref f_Room_without) = true)
    (l_Room_without : K.lookup f_Room_without = some ⟨oc_Room_without, od_Room_without, .func (PySem.W.fnOf "without" "Room.without" (defArgs s_Room_without) (defBody s_Room_without) (defScope s_Room_without) .none kV_Room_without dc_Room_without pm_Room_without an_Room_without cd_Room_without ct_Room_without), sl_Room_without⟩)
    (c_Room_without : PySem.W.codeIn K cd_Room_without "Room.without" = true)
    (k_Room_without : PySem.W.keepIn K (.ref f_Room_without) = true)
    (a_Room_len : PySem.W.findIn K (.ref C_Room) "__len__" = some (some (.ref f_Room_len)))
    (i_Room_len : PySem.W.isFn K (.ref f_Room_len) = true)
    (l_Room_len : K.lookup f_Room_len = some ⟨oc_Room_len, od_Room_len, .func (PySem.W.fnOf "__len__" "Room.__len__" (defArgs s_Room_len) (defBody s_Room_len) (defScope s_Room_len) .none kV_Room_len dc_Room_len pm_Room_len an_Room_len cd_Room_len ct_Room_len), sl_Room_len⟩)
    (c_Room_len : PySem.W.codeIn K cd_Room_len "Room.__len__" = true)
    (k_Room_len : PySem.W.keepIn K (.ref f_Room_len) = true)
    (a_Room_getitem : PySem.W.findIn K (.ref C_Room) "__getitem__" = some (some (.ref f_Room_getitem)))
    (i_Room_getitem : PySem.W.isFn K (.ref f_Room_getitem) = true)
    (l_Room_getitem : K.lookup f_Room_getitem = some ⟨oc_Room_getitem, od_Room_getitem, .func (PySem.W.fnOf "__getitem__" "Room.__getitem__" (defArgs s_Room_getitem) (defBody s_Room_getitem) (defScope s_Room_getitem) .none kV_Room_getitem dc_Room_getitem pm_Room_getitem an_Room_getitem cd_Room_getitem ct_Room_getitem), sl_Room_getitem⟩)
    (c_Room_getitem : PySem.W.codeIn K cd_Room_getitem "Room.__getitem__" = true)
    (k_Room_getitem : PySem.W.keepIn K (.ref f_Room_getitem) = true)
    (a_Room_add : PySem.W.findIn K (.ref C_Room) "__add__" = some (some (.ref f_Room_add)))
    (i_Room_add : PySem.W.isFn K (.ref f_Room_add) = true)
    (l_Room_add : K.lookup f_Room_add = some ⟨oc_Room_add, od_Room_add, .func (PySem.W.fnOf "__add__" "Room.__add__" (defArgs s_Room_add) (defBody s_Room_add) (defScope s_Room_add) .none kV_Room_add dc_Room_add pm_Room_add an_Room_add cd_Room_add ct_Room_add), sl_Room_add⟩)
    (c_Room_add : PySem.W.codeIn K cd_Room_add "Room.__add__" = true)
    (k_Room_add : PySem.W.keepIn K (.ref f_Room_add) = true)
    (a_Room_eq : PySem.W.findIn K (.ref C_Room) "__eq__" = some (some (.ref f_Room_eq)))
    (i_Room_eq : PySem.W.isFn K (.ref f_Room_eq) = true)
    (l_Room_eq : K.lookup f_Room_eq = some ⟨oc_Room_eq, od_Room_eq, .func (PySem.W.fnOf "__eq__" "Room.__eq__" (defArgs s_Room_eq) (defBody s_Room_eq) (defScope s_Room_eq) .none kV_Room_eq dc_Room_eq pm_Room_eq an_Room_eq cd_Room_eq ct_Room_eq), sl_Room_eq⟩)
    (c_Room_eq : PySem.W.codeIn K cd_Room_eq "Room.__eq__" = true)
    (k_Room_eq : PySem.W.keepIn K (.ref f_Room_eq) = true)
    (a_Room_str : PySem.W.findIn K (.ref C_Room) "__str__" = some (some (.ref f_Room_str)))
    (i_Room_str : PySem.W.isFn K (.ref f_Room_str) = true)
    (l_Room_str : K.lookup f_Room_str = some ⟨oc_Room_str, od_Room_str, .func (PySem.W.fnOf "__str__" "Room.__str__" (defArgs s_Room_str) (defBody s_Room_str) (defScope s_Room_str) .none kV_Room_str dc_Room_str pm_Room_str an_Room_str cd_Room_str ct_Room_str), sl_Room_str⟩)
    (c_Room_str : PySem.W.codeIn K cd_Room_str "Room.__str__" = true)
    (k_Room_str : PySem.W.keepIn K (.ref f_Room_str) = true)
    (a_least_meeting : PySem.W.nsIn K mainGlobals "least_meeting" = some (some (.ref f_least_meeting)))
    (l_least_meeting : K.lookup f_least_meeting = some ⟨oc_least_meeting, od_least_meeting, .func (PySem.W.fnOf "least_meeting" "least_meeting" (defArgs s_least_meeting) (defBody s_least_meeting) (defScope s_least_meeting) .none kV_least_meeting dc_least_meeting pm_least_meeting an_least_meeting cd_least_meeting ct_least_meeting), sl_least_meeting⟩)
    (c_least_meeting : PySem.W.codeIn K cd_least_meeting "least_meeting" = true)
    (k_least_meeting : PySem.W.keepIn K (.ref f_least_meeting) = true)
    (a_ones_of : PySem.W.nsIn K mainGlobals "ones_of" = some (some (.ref f_ones_of)))
    (l_ones_of : K.lookup f_ones_of = some ⟨oc_ones_of, od_ones_of, .func (PySem.W.fnOf "ones_of" "ones_of" (defArgs s_ones_of) (defBody s_ones_of) (defScope s_ones_of) .none kV_ones_of dc_ones_of pm_ones_of an_ones_of cd_ones_of ct_ones_of), sl_ones_of⟩)
    (c_ones_of : PySem.W.codeIn K cd_ones_of "ones_of" = true)
    (k_ones_of : PySem.W.keepIn K (.ref f_ones_of) = true)
    (a_has_one_of : PySem.W.nsIn K mainGlobals "has_one_of" = some (some (.ref f_has_one_of)))
    (l_has_one_of : K.lookup f_has_one_of = some ⟨oc_has_one_of, od_has_one_of, .func (PySem.W.fnOf "has_one_of" "has_one_of" (defArgs s_has_one_of) (defBody s_has_one_of) (defScope s_has_one_of) .none kV_has_one_of dc_has_one_of pm_has_one_of an_has_one_of cd_has_one_of ct_has_one_of), sl_has_one_of⟩)
    (c_has_one_of : PySem.W.codeIn K cd_has_one_of "has_one_of" = true)
    (k_has_one_of : PySem.W.keepIn K (.ref f_has_one_of) = true)
    (a_tree : PySem.W.nsIn K mainGlobals "tree" = some (some (.ref f_tree)))
    (l_tree : K.lookup f_tree = some ⟨oc_tree, od_tree, .func (PySem.W.fnOf "tree" "tree" (defArgs s_tree) (defBody s_tree) (defScope s_tree) .none kV_tree dc_tree pm_tree an_tree cd_tree ct_tree), sl_tree⟩)
    (c_tree : PySem.W.codeIn K cd_tree "tree" = true)
    (k_tree : PySem.W.keepIn K (.ref f_tree) = true)
    (a_taken_down : PySem.W.nsIn K mainGlobals "taken_down" = some (some (.ref f_taken_down)))
    (l_taken_down : K.lookup f_taken_down = some ⟨oc_taken_down, od_taken_down, .func (PySem.W.fnOf "taken_down" "taken_down" (defArgs s_taken_down) (defBody s_taken_down) (defScope s_taken_down) .none kV_taken_down dc_taken_down pm_taken_down an_taken_down cd_taken_down ct_taken_down), sl_taken_down⟩)
    (c_taken_down : PySem.W.codeIn K cd_taken_down "taken_down" = true)
    (k_taken_down : PySem.W.keepIn K (.ref f_taken_down) = true)
    (a_check_edges : PySem.W.nsIn K mainGlobals "check_edges" = some (some (.ref f_check_edges)))
    (l_check_edges : K.lookup f_check_edges = some ⟨oc_check_edges, od_check_edges, .func (PySem.W.fnOf "check_edges" "check_edges" (defArgs s_check_edges) (defBody s_check_edges) (defScope s_check_edges) .none kV_check_edges dc_check_edges pm_check_edges an_check_edges cd_check_edges ct_check_edges), sl_check_edges⟩)
    (c_check_edges : PySem.W.codeIn K cd_check_edges "check_edges" = true)
    (k_check_edges : PySem.W.keepIn K (.ref f_check_edges) = true)
    (a_is_tuple_of : PySem.W.nsIn K mainGlobals "is_tuple_of" = some (some (.ref f_is_tuple_of)))
    (l_is_tuple_of : K.lookup f_is_tuple_of = some ⟨oc_is_tuple_of, od_is_tuple_of, .func (PySem.W.fnOf "is_tuple_of" "is_tuple_of" (defArgs s_is_tuple_of) (defBody s_is_tuple_of) (defScope s_is_tuple_of) .none kV_is_tuple_of dc_is_tuple_of pm_is_tuple_of an_is_tuple_of cd_is_tuple_of ct_is_tuple_of), sl_is_tuple_of⟩)
    (c_is_tuple_of : PySem.W.codeIn K cd_is_tuple_of "is_tuple_of" = true)
    (k_is_tuple_of : PySem.W.keepIn K (.ref f_is_tuple_of) = true)
    (a_ring_at : PySem.W.nsIn K mainGlobals "ring_at" = some (some (.ref f_ring_at)))
    (l_ring_at : K.lookup f_ring_at = some ⟨oc_ring_at, od_ring_at, .func (PySem.W.fnOf "ring_at" "ring_at" (defArgs s_ring_at) (defBody s_ring_at) (defScope s_ring_at) .none kV_ring_at dc_ring_at pm_ring_at an_ring_at cd_ring_at ct_ring_at), sl_ring_at⟩)
    (c_ring_at : PySem.W.codeIn K cd_ring_at "ring_at" = true)
    (k_ring_at : PySem.W.keepIn K (.ref f_ring_at) = true)
    (a_are_joined : PySem.W.nsIn K mainGlobals "are_joined" = some (some (.ref f_are_joined)))
    (l_are_joined : K.lookup f_are_joined = some ⟨oc_are_joined, od_are_joined, .func (PySem.W.fnOf "are_joined" "are_joined" (defArgs s_are_joined) (defBody s_are_joined) (defScope s_are_joined) .none kV_are_joined dc_are_joined pm_are_joined an_are_joined cd_are_joined ct_are_joined), sl_are_joined⟩)
    (c_are_joined : PySem.W.codeIn K cd_are_joined "are_joined" = true)
    (k_are_joined : PySem.W.keepIn K (.ref f_are_joined) = true)
    (a_unjoined_beside : PySem.W.nsIn K mainGlobals "unjoined_beside" = some (some (.ref f_unjoined_beside)))
    (l_unjoined_beside : K.lookup f_unjoined_beside = some ⟨oc_unjoined_beside, od_unjoined_beside, .func (PySem.W.fnOf "unjoined_beside" "unjoined_beside" (defArgs s_unjoined_beside) (defBody s_unjoined_beside) (defScope s_unjoined_beside) .none kV_unjoined_beside dc_unjoined_beside pm_unjoined_beside an_unjoined_beside cd_unjoined_beside ct_unjoined_beside), sl_unjoined_beside⟩)
    (c_unjoined_beside : PySem.W.codeIn K cd_unjoined_beside "unjoined_beside" = true)
    (k_unjoined_beside : PySem.W.keepIn K (.ref f_unjoined_beside) = true)
    (a_room_kept_by : PySem.W.nsIn K mainGlobals "room_kept_by" = some (some (.ref f_room_kept_by)))
    (l_room_kept_by : K.lookup f_room_kept_by = some ⟨oc_room_kept_by, od_room_kept_by, .func (PySem.W.fnOf "room_kept_by" "room_kept_by" (defArgs s_room_kept_by) (defBody s_room_kept_by) (defScope s_room_kept_by) .none kV_room_kept_by dc_room_kept_by pm_room_kept_by an_room_kept_by cd_room_kept_by ct_room_kept_by), sl_room_kept_by⟩)
    (c_room_kept_by : PySem.W.codeIn K cd_room_kept_by "room_kept_by" = true)
    (k_room_kept_by : PySem.W.keepIn K (.ref f_room_kept_by) = true)
    (a_lw_forest : PySem.W.nsIn K mainGlobals "_law_forest" = some (some (.ref f_lw_forest)))
    (l_lw_forest : K.lookup f_lw_forest = some ⟨oc_lw_forest, od_lw_forest, .func (PySem.W.fnOf "_law_forest" "_law_forest" (defArgs s_lw_forest) (defBody s_lw_forest) (defScope s_lw_forest) .none kV_lw_forest dc_lw_forest pm_lw_forest an_lw_forest cd_lw_forest ct_lw_forest), sl_lw_forest⟩)
    (c_lw_forest : PySem.W.codeIn K cd_lw_forest "_law_forest" = true)
    (k_lw_forest : PySem.W.keepIn K (.ref f_lw_forest) = true)
    (a_lw_corners : PySem.W.nsIn K mainGlobals "_law_corners" = some (some (.ref f_lw_corners)))
    (l_lw_corners : K.lookup f_lw_corners = some ⟨oc_lw_corners, od_lw_corners, .func (PySem.W.fnOf "_law_corners" "_law_corners" (defArgs s_lw_corners) (defBody s_lw_corners) (defScope s_lw_corners) .none kV_lw_corners dc_lw_corners pm_lw_corners an_lw_corners cd_lw_corners ct_lw_corners), sl_lw_corners⟩)
    (c_lw_corners : PySem.W.codeIn K cd_lw_corners "_law_corners" = true)
    (k_lw_corners : PySem.W.keepIn K (.ref f_lw_corners) = true)
    (a_lw_beside : PySem.W.nsIn K mainGlobals "_law_beside" = some (some (.ref f_lw_beside)))
    (l_lw_beside : K.lookup f_lw_beside = some ⟨oc_lw_beside, od_lw_beside, .func (PySem.W.fnOf "_law_beside" "_law_beside" (defArgs s_lw_beside) (defBody s_lw_beside) (defScope s_lw_beside) .none kV_lw_beside dc_lw_beside pm_lw_beside an_lw_beside cd_lw_beside ct_lw_beside), sl_lw_beside⟩)
    (c_lw_beside : PySem.W.codeIn K cd_lw_beside "_law_beside" = true)
    (k_lw_beside : PySem.W.keepIn K (.ref f_lw_beside) = true)
    (a_lw_lots_by : PySem.W.nsIn K mainGlobals "_law_lots_by" = some (some (.ref f_lw_lots_by)))
    (l_lw_lots_by : K.lookup f_lw_lots_by = some ⟨oc_lw_lots_by, od_lw_lots_by, .func (PySem.W.fnOf "_law_lots_by" "_law_lots_by" (defArgs s_lw_lots_by) (defBody s_lw_lots_by) (defScope s_lw_lots_by) .none kV_lw_lots_by dc_lw_lots_by pm_lw_lots_by an_lw_lots_by cd_lw_lots_by ct_lw_lots_by), sl_lw_lots_by⟩)
    (c_lw_lots_by : PySem.W.codeIn K cd_lw_lots_by "_law_lots_by" = true)
    (k_lw_lots_by : PySem.W.keepIn K (.ref f_lw_lots_by) = true)
    (a_lw_is_room : PySem.W.nsIn K mainGlobals "_law_is_room" = some (some (.ref f_lw_is_room)))
    (l_lw_is_room : K.lookup f_lw_is_room = some ⟨oc_lw_is_room, od_lw_is_room, .func (PySem.W.fnOf "_law_is_room" "_law_is_room" (defArgs s_lw_is_room) (defBody s_lw_is_room) (defScope s_lw_is_room) .none kV_lw_is_room dc_lw_is_room pm_lw_is_room an_lw_is_room cd_lw_is_room ct_lw_is_room), sl_lw_is_room⟩)
    (c_lw_is_room : PySem.W.codeIn K cd_lw_is_room "_law_is_room" = true)
    (k_lw_is_room : PySem.W.keepIn K (.ref f_lw_is_room) = true)
    (a_lw_deal : PySem.W.nsIn K mainGlobals "_law_deal" = some (some (.ref f_lw_deal)))
    (l_lw_deal : K.lookup f_lw_deal = some ⟨oc_lw_deal, od_lw_deal, .func (PySem.W.fnOf "_law_deal" "_law_deal" (defArgs s_lw_deal) (defBody s_lw_deal) (defScope s_lw_deal) .none kV_lw_deal dc_lw_deal pm_lw_deal an_lw_deal cd_lw_deal ct_lw_deal), sl_lw_deal⟩)
    (c_lw_deal : PySem.W.codeIn K cd_lw_deal "_law_deal" = true)
    (k_lw_deal : PySem.W.keepIn K (.ref f_lw_deal) = true)
    (a_lw_draw : PySem.W.nsIn K mainGlobals "_law_draw" = some (some (.ref f_lw_draw)))
    (l_lw_draw : K.lookup f_lw_draw = some ⟨oc_lw_draw, od_lw_draw, .func (PySem.W.fnOf "_law_draw" "_law_draw" (defArgs s_lw_draw) (defBody s_lw_draw) (defScope s_lw_draw) .none kV_lw_draw dc_lw_draw pm_lw_draw an_lw_draw cd_lw_draw ct_lw_draw), sl_lw_draw⟩)
    (c_lw_draw : PySem.W.codeIn K cd_lw_draw "_law_draw" = true)
    (k_lw_draw : PySem.W.keepIn K (.ref f_lw_draw) = true)
    (a_lw_pick : PySem.W.nsIn K mainGlobals "_law_pick" = some (some (.ref f_lw_pick)))
    (l_lw_pick : K.lookup f_lw_pick = some ⟨oc_lw_pick, od_lw_pick, .func (PySem.W.fnOf "_law_pick" "_law_pick" (defArgs s_lw_pick) (defBody s_lw_pick) (defScope s_lw_pick) .none kV_lw_pick dc_lw_pick pm_lw_pick an_lw_pick cd_lw_pick ct_lw_pick), sl_lw_pick⟩)
    (c_lw_pick : PySem.W.codeIn K cd_lw_pick "_law_pick" = true)
    (k_lw_pick : PySem.W.keepIn K (.ref f_lw_pick) = true)
    (a_lw_mixed : PySem.W.nsIn K mainGlobals "_law_mixed" = some (some (.ref f_lw_mixed)))
    (l_lw_mixed : K.lookup f_lw_mixed = some ⟨oc_lw_mixed, od_lw_mixed, .func (PySem.W.fnOf "_law_mixed" "_law_mixed" (defArgs s_lw_mixed) (defBody s_lw_mixed) (defScope s_lw_mixed) .none kV_lw_mixed dc_lw_mixed pm_lw_mixed an_lw_mixed cd_lw_mixed ct_lw_mixed), sl_lw_mixed⟩)
    (c_lw_mixed : PySem.W.codeIn K cd_lw_mixed "_law_mixed" = true)
    (k_lw_mixed : PySem.W.keepIn K (.ref f_lw_mixed) = true)
    (a_lw_names : PySem.W.nsIn K mainGlobals "_law_names" = some (some (.ref f_lw_names)))
    (l_lw_names : K.lookup f_lw_names = some ⟨oc_lw_names, od_lw_names, .func (PySem.W.fnOf "_law_names" "_law_names" (defArgs s_lw_names) (defBody s_lw_names) (defScope s_lw_names) .none kV_lw_names dc_lw_names pm_lw_names an_lw_names cd_lw_names ct_lw_names), sl_lw_names⟩)
    (c_lw_names : PySem.W.codeIn K cd_lw_names "_law_names" = true)
    (k_lw_names : PySem.W.keepIn K (.ref f_lw_names) = true)
    (a_lw_with : PySem.W.nsIn K mainGlobals "_law_with" = some (some (.ref f_lw_with)))
    (l_lw_with : K.lookup f_lw_with = some ⟨oc_lw_with, od_lw_with, .func (PySem.W.fnOf "_law_with" "_law_with" (defArgs s_lw_with) (defBody s_lw_with) (defScope s_lw_with) .none kV_lw_with dc_lw_with pm_lw_with an_lw_with cd_lw_with ct_lw_with), sl_lw_with⟩)
    (c_lw_with : PySem.W.codeIn K cd_lw_with "_law_with" = true)
    (k_lw_with : PySem.W.keepIn K (.ref f_lw_with) = true)
    (a_lw_main : PySem.W.nsIn K mainGlobals "law" = some (some (.ref f_lw_main)))
    (l_lw_main : K.lookup f_lw_main = some ⟨oc_lw_main, od_lw_main, .func (PySem.W.fnOf "law" "law" (defArgs s_lw_main) (defBody s_lw_main) (defScope s_lw_main) .none kV_lw_main dc_lw_main pm_lw_main an_lw_main cd_lw_main ct_lw_main), sl_lw_main⟩)
    (c_lw_main : PySem.W.codeIn K cd_lw_main "law" = true)
    (k_lw_main : PySem.W.keepIn K (.ref f_lw_main) = true)
    (sn_Room_Rule : PySem.W.subIn K (.ref C_Room) (.ref C_Rule) = some false)
    (sa_InvalidDrawing : PySem.W.findIn K (.ref C_InvalidDrawing) "__setattr__" = some (some (.builtin "object.__setattr__")))
    (ga_InvalidDrawing : PySem.W.findIn K (.ref C_InvalidDrawing) "__getattribute__" = some (some (.builtin "BaseException.__getattribute__")))
    (gg_InvalidDrawing : PySem.W.findIn K (.ref C_InvalidDrawing) "__getattr__" = some none)
    (nb_InvalidDrawing : PySem.W.findIn K (.ref C_InvalidDrawing) "at" = some none)
    (tI_InvalidDrawing : PySem.W.typeIn K (.ref f_InvalidDrawing_init) = some (.type "function"))
    (kC_InvalidDrawing : PySem.W.keepIn K (.ref C_InvalidDrawing) = true)
    (eC_InvalidDrawing : PySem.W.subIn K (.ref C_InvalidDrawing) (.type "BaseException") = some true)
    (tC_InvalidDrawing : PySem.W.typeIn K (.ref C_InvalidDrawing) = some (.type "type"))
    (hC_InvalidDrawing : PySem.W.hasDictIn K C_InvalidDrawing = true)
    (sC_InvalidDrawing : PySem.W.subIn K (.ref C_InvalidDrawing) (.ref C_InvalidDrawing) = some true)
    (hA_InvalidDrawing : PySem.W.findIn K (.ref C_InvalidDrawing) "__class__" = some (some (.builtin "object.__class__")))
    (hN_InvalidDrawing : PySem.W.specialIn K (.builtin "object.__class__") "__get__" = some (some (.builtin "getset_descriptor.__get__")))
    (hT_InvalidDrawing : PySem.W.takesIn K (.builtin "object.__class__") = some true)
    (hM_InvalidDrawing : PySem.W.mroIn K C_InvalidDrawing (.type "object") = some true)
    (sa_InvalidRule : PySem.W.findIn K (.ref C_InvalidRule) "__setattr__" = some (some (.builtin "object.__setattr__")))
    (ga_InvalidRule : PySem.W.findIn K (.ref C_InvalidRule) "__getattribute__" = some (some (.builtin "BaseException.__getattribute__")))
    (gg_InvalidRule : PySem.W.findIn K (.ref C_InvalidRule) "__getattr__" = some none)
    (nb_InvalidRule : PySem.W.findIn K (.ref C_InvalidRule) "word" = some none)
    (tI_InvalidRule : PySem.W.typeIn K (.ref f_InvalidRule_init) = some (.type "function"))
    (kC_InvalidRule : PySem.W.keepIn K (.ref C_InvalidRule) = true)
    (eC_InvalidRule : PySem.W.subIn K (.ref C_InvalidRule) (.type "BaseException") = some true)
    (tC_InvalidRule : PySem.W.typeIn K (.ref C_InvalidRule) = some (.type "type"))
    (hC_InvalidRule : PySem.W.hasDictIn K C_InvalidRule = true)
    (sC_InvalidRule : PySem.W.subIn K (.ref C_InvalidRule) (.ref C_InvalidRule) = some true)
    (hA_InvalidRule : PySem.W.findIn K (.ref C_InvalidRule) "__class__" = some (some (.builtin "object.__class__")))
    (hN_InvalidRule : PySem.W.specialIn K (.builtin "object.__class__") "__get__" = some (some (.builtin "getset_descriptor.__get__")))
    (hT_InvalidRule : PySem.W.takesIn K (.builtin "object.__class__") = some true)
    (hM_InvalidRule : PySem.W.mroIn K C_InvalidRule (.type "object") = some true)
    (n_abs : PySem.W.nsIn K mainGlobals "abs" = some none)
    (n_all : PySem.W.nsIn K mainGlobals "all" = some none)
    (n_any : PySem.W.nsIn K mainGlobals "any" = some none)
    (n_bool : PySem.W.nsIn K mainGlobals "bool" = some none)
    (n_enumerate : PySem.W.nsIn K mainGlobals "enumerate" = some none)
    (n_int : PySem.W.nsIn K mainGlobals "int" = some none)
    (n_isinstance : PySem.W.nsIn K mainGlobals "isinstance" = some none)
    (n_len : PySem.W.nsIn K mainGlobals "len" = some none)
    (n_list : PySem.W.nsIn K mainGlobals "list" = some none)
    (n_max : PySem.W.nsIn K mainGlobals "max" = some none)
    (n_min : PySem.W.nsIn K mainGlobals "min" = some none)
    (n_range : PySem.W.nsIn K mainGlobals "range" = some none)
    (n_set : PySem.W.nsIn K mainGlobals "set" = some none)
    (n_sorted : PySem.W.nsIn K mainGlobals "sorted" = some none)
    (n_str : PySem.W.nsIn K mainGlobals "str" = some none)
    (n_sum : PySem.W.nsIn K mainGlobals "sum" = some none)
    (n_tuple : PySem.W.nsIn K mainGlobals "tuple" = some none)
    (m_LETTERS : PySem.W.nsIn K mainGlobals "LETTERS" = some (some (.str "abcdefghijklmnopqrstuvwxyz" tk_LETTERS)))
    : ∃ a : Ads, a.f_lw_main = fa ∧ Txt K mg a ∧ (∀ (s : Shared) (v : Value), BindsTo s a.fd_lw_main ⟨[v], []⟩ [("_law_script", v)]) ∧ a.fd_lw_main.code = cd_lw_main := by
  have e := hfa.symm.trans (PySem.W.mg_of X G a_lw_main)
  have e2 : f_lw_main = fa := by cases e; rfl
  refine ⟨⟨C_Rule, C_Room, C_InvalidDrawing, C_InvalidRule, f_is_int, (PySem.W.fnOf "is_int" "is_int" (defArgs s_is_int) (defBody s_is_int) (defScope s_is_int) .none kV_is_int dc_is_int pm_is_int an_is_int cd_is_int ct_is_int), f_is_index, (PySem.W.fnOf "is_index" "is_index" (defArgs s_is_index) (defBody s_is_index) (defScope s_is_index) .none kV_is_index dc_is_index pm_is_index an_is_index cd_is_index ct_is_index), f_is_name, (PySem.W.fnOf "is_name" "is_name" (defArgs s_is_name) (defBody s_is_name) (defScope s_is_name) .none kV_is_name dc_is_name pm_is_name an_is_name cd_is_name ct_is_name), f_is_sequence, (PySem.W.fnOf "is_sequence" "is_sequence" (defArgs s_is_sequence) (defBody s_is_sequence) (defScope s_is_sequence) .none kV_is_sequence dc_is_sequence pm_is_sequence an_is_sequence cd_is_sequence ct_is_sequence), f_are_names, (PySem.W.fnOf "are_names" "are_names" (defArgs s_are_names) (defBody s_are_names) (defScope s_are_names) .none kV_are_names dc_are_names pm_are_names an_are_names cd_are_names ct_are_names), f_are_unlike, (PySem.W.fnOf "are_unlike" "are_unlike" (defArgs s_are_unlike) (defBody s_are_unlike) (defScope s_are_unlike) .none kV_are_unlike dc_are_unlike pm_are_unlike an_are_unlike cd_are_unlike ct_are_unlike), f_lot_of, (PySem.W.fnOf "lot_of" "lot_of" (defArgs s_lot_of) (defBody s_lot_of) (defScope s_lot_of) .none kV_lot_of dc_lot_of pm_lot_of an_lot_of cd_lot_of ct_lot_of), f_bits_of, (PySem.W.fnOf "bits_of" "bits_of" (defArgs s_bits_of) (defBody s_bits_of) (defScope s_bits_of) .none kV_bits_of dc_bits_of pm_bits_of an_bits_of cd_bits_of ct_bits_of), f_names_of, (PySem.W.fnOf "names_of" "names_of" (defArgs s_names_of) (defBody s_names_of) (defScope s_names_of) .none kV_names_of dc_names_of pm_names_of an_names_of cd_names_of ct_names_of), f_InvalidRule_init, (PySem.W.fnOf "__init__" "InvalidRule.__init__" (defArgs s_InvalidRule_init) (defBody s_InvalidRule_init) (defScope s_InvalidRule_init) .none kV_InvalidRule_init dc_InvalidRule_init pm_InvalidRule_init an_InvalidRule_init cd_InvalidRule_init ct_InvalidRule_init), f_InvalidDrawing_init, (PySem.W.fnOf "__init__" "InvalidDrawing.__init__" (defArgs s_InvalidDrawing_init) (defBody s_InvalidDrawing_init) (defScope s_InvalidDrawing_init) .none kV_InvalidDrawing_init dc_InvalidDrawing_init pm_InvalidDrawing_init an_InvalidDrawing_init cd_InvalidDrawing_init ct_InvalidDrawing_init), f_may, (PySem.W.fnOf "may" "may" (defArgs s_may) (defBody s_may) (defScope s_may) .none kV_may dc_may pm_may an_may cd_may ct_may), f_is_fulfilled, (PySem.W.fnOf "is_fulfilled" "is_fulfilled" (defArgs s_is_fulfilled) (defBody s_is_fulfilled) (defScope s_is_fulfilled) .none kV_is_fulfilled dc_is_fulfilled pm_is_fulfilled an_is_fulfilled cd_is_fulfilled ct_is_fulfilled), f_lots, (PySem.W.fnOf "lots" "lots" (defArgs s_lots) (defBody s_lots) (defScope s_lots) .none kV_lots dc_lots pm_lots an_lots cd_lots ct_lots), f_lots_after, (PySem.W.fnOf "lots_after" "lots_after" (defArgs s_lots_after) (defBody s_lots_after) (defScope s_lots_after) .none kV_lots_after dc_lots_after pm_lots_after an_lots_after cd_lots_after ct_lots_after), f_others, (PySem.W.fnOf "others" "others" (defArgs s_others) (defBody s_others) (defScope s_others) .none kV_others dc_others pm_others an_others cd_others ct_others), f_leavers, (PySem.W.fnOf "leavers" "leavers" (defArgs s_leavers) (defBody s_leavers) (defScope s_leavers) (.ref T_leavers) kV_leavers dc_leavers pm_leavers an_leavers cd_leavers ct_leavers), e_leavers, f_stuck, (PySem.W.fnOf "stuck" "stuck" (defArgs s_stuck) (defBody s_stuck) (defScope s_stuck) .none kV_stuck dc_stuck pm_stuck an_stuck cd_stuck ct_stuck), f_hull, (PySem.W.fnOf "hull" "hull" (defArgs s_hull) (defBody s_hull) (defScope s_hull) .none kV_hull dc_hull pm_hull an_hull cd_hull ct_hull), f_Rule_init, (PySem.W.fnOf "__init__" "Rule.__init__" (defArgs s_Rule_init) (defBody s_Rule_init) (defScope s_Rule_init) (.ref T_Rule_init) kV_Rule_init dc_Rule_init pm_Rule_init an_Rule_init cd_Rule_init ct_Rule_init), e_Rule_init, f_Rule_eq, (PySem.W.fnOf "__eq__" "Rule.__eq__" (defArgs s_Rule_eq) (defBody s_Rule_eq) (defScope s_Rule_eq) .none kV_Rule_eq dc_Rule_eq pm_Rule_eq an_Rule_eq cd_Rule_eq ct_Rule_eq), f_Rule_str, (PySem.W.fnOf "__str__" "Rule.__str__" (defArgs s_Rule_str) (defBody s_Rule_str) (defScope s_Rule_str) .none kV_Rule_str dc_Rule_str pm_Rule_str an_Rule_str cd_Rule_str ct_Rule_str), f_read_rule, (PySem.W.fnOf "read_rule" "read_rule" (defArgs s_read_rule) (defBody s_read_rule) (defScope s_read_rule) .none kV_read_rule dc_read_rule pm_read_rule an_read_rule cd_read_rule ct_read_rule), f_Room_init, (PySem.W.fnOf "__init__" "Room.__init__" (defArgs s_Room_init) (defBody s_Room_init) (defScope s_Room_init) (.ref T_Room_init) kV_Room_init dc_Room_init pm_Room_init an_Room_init cd_Room_init ct_Room_init), e_Room_init, f_Room_read, (PySem.W.fnOf "read" "Room.read" (defArgs s_Room_read) (defBody s_Room_read) (defScope s_Room_read) .none kV_Room_read dc_Room_read pm_Room_read an_Room_read cd_Room_read ct_Room_read), p_Room_read, f_Room_without, (PySem.W.fnOf "without" "Room.without" (defArgs s_Room_without) (defBody s_Room_without) (defScope s_Room_without) .none kV_Room_without dc_Room_without pm_Room_without an_Room_without cd_Room_without ct_Room_without), f_Room_len, (PySem.W.fnOf "__len__" "Room.__len__" (defArgs s_Room_len) (defBody s_Room_len) (defScope s_Room_len) .none kV_Room_len dc_Room_len pm_Room_len an_Room_len cd_Room_len ct_Room_len), f_Room_getitem, (PySem.W.fnOf "__getitem__" "Room.__getitem__" (defArgs s_Room_getitem) (defBody s_Room_getitem) (defScope s_Room_getitem) .none kV_Room_getitem dc_Room_getitem pm_Room_getitem an_Room_getitem cd_Room_getitem ct_Room_getitem), f_Room_add, (PySem.W.fnOf "__add__" "Room.__add__" (defArgs s_Room_add) (defBody s_Room_add) (defScope s_Room_add) .none kV_Room_add dc_Room_add pm_Room_add an_Room_add cd_Room_add ct_Room_add), f_Room_eq, (PySem.W.fnOf "__eq__" "Room.__eq__" (defArgs s_Room_eq) (defBody s_Room_eq) (defScope s_Room_eq) .none kV_Room_eq dc_Room_eq pm_Room_eq an_Room_eq cd_Room_eq ct_Room_eq), f_Room_str, (PySem.W.fnOf "__str__" "Room.__str__" (defArgs s_Room_str) (defBody s_Room_str) (defScope s_Room_str) .none kV_Room_str dc_Room_str pm_Room_str an_Room_str cd_Room_str ct_Room_str), f_least_meeting, (PySem.W.fnOf "least_meeting" "least_meeting" (defArgs s_least_meeting) (defBody s_least_meeting) (defScope s_least_meeting) .none kV_least_meeting dc_least_meeting pm_least_meeting an_least_meeting cd_least_meeting ct_least_meeting), f_ones_of, (PySem.W.fnOf "ones_of" "ones_of" (defArgs s_ones_of) (defBody s_ones_of) (defScope s_ones_of) .none kV_ones_of dc_ones_of pm_ones_of an_ones_of cd_ones_of ct_ones_of), f_has_one_of, (PySem.W.fnOf "has_one_of" "has_one_of" (defArgs s_has_one_of) (defBody s_has_one_of) (defScope s_has_one_of) .none kV_has_one_of dc_has_one_of pm_has_one_of an_has_one_of cd_has_one_of ct_has_one_of), f_tree, (PySem.W.fnOf "tree" "tree" (defArgs s_tree) (defBody s_tree) (defScope s_tree) .none kV_tree dc_tree pm_tree an_tree cd_tree ct_tree), f_taken_down, (PySem.W.fnOf "taken_down" "taken_down" (defArgs s_taken_down) (defBody s_taken_down) (defScope s_taken_down) .none kV_taken_down dc_taken_down pm_taken_down an_taken_down cd_taken_down ct_taken_down), f_check_edges, (PySem.W.fnOf "check_edges" "check_edges" (defArgs s_check_edges) (defBody s_check_edges) (defScope s_check_edges) .none kV_check_edges dc_check_edges pm_check_edges an_check_edges cd_check_edges ct_check_edges), f_is_tuple_of, (PySem.W.fnOf "is_tuple_of" "is_tuple_of" (defArgs s_is_tuple_of) (defBody s_is_tuple_of) (defScope s_is_tuple_of) .none kV_is_tuple_of dc_is_tuple_of pm_is_tuple_of an_is_tuple_of cd_is_tuple_of ct_is_tuple_of), f_ring_at, (PySem.W.fnOf "ring_at" "ring_at" (defArgs s_ring_at) (defBody s_ring_at) (defScope s_ring_at) .none kV_ring_at dc_ring_at pm_ring_at an_ring_at cd_ring_at ct_ring_at), f_are_joined, (PySem.W.fnOf "are_joined" "are_joined" (defArgs s_are_joined) (defBody s_are_joined) (defScope s_are_joined) .none kV_are_joined dc_are_joined pm_are_joined an_are_joined cd_are_joined ct_are_joined), f_unjoined_beside, (PySem.W.fnOf "unjoined_beside" "unjoined_beside" (defArgs s_unjoined_beside) (defBody s_unjoined_beside) (defScope s_unjoined_beside) .none kV_unjoined_beside dc_unjoined_beside pm_unjoined_beside an_unjoined_beside cd_unjoined_beside ct_unjoined_beside), f_room_kept_by, (PySem.W.fnOf "room_kept_by" "room_kept_by" (defArgs s_room_kept_by) (defBody s_room_kept_by) (defScope s_room_kept_by) .none kV_room_kept_by dc_room_kept_by pm_room_kept_by an_room_kept_by cd_room_kept_by ct_room_kept_by), f_lw_forest, (PySem.W.fnOf "_law_forest" "_law_forest" (defArgs s_lw_forest) (defBody s_lw_forest) (defScope s_lw_forest) .none kV_lw_forest dc_lw_forest pm_lw_forest an_lw_forest cd_lw_forest ct_lw_forest), f_lw_corners, (PySem.W.fnOf "_law_corners" "_law_corners" (defArgs s_lw_corners) (defBody s_lw_corners) (defScope s_lw_corners) .none kV_lw_corners dc_lw_corners pm_lw_corners an_lw_corners cd_lw_corners ct_lw_corners), f_lw_beside, (PySem.W.fnOf "_law_beside" "_law_beside" (defArgs s_lw_beside) (defBody s_lw_beside) (defScope s_lw_beside) .none kV_lw_beside dc_lw_beside pm_lw_beside an_lw_beside cd_lw_beside ct_lw_beside), f_lw_lots_by, (PySem.W.fnOf "_law_lots_by" "_law_lots_by" (defArgs s_lw_lots_by) (defBody s_lw_lots_by) (defScope s_lw_lots_by) .none kV_lw_lots_by dc_lw_lots_by pm_lw_lots_by an_lw_lots_by cd_lw_lots_by ct_lw_lots_by), f_lw_is_room, (PySem.W.fnOf "_law_is_room" "_law_is_room" (defArgs s_lw_is_room) (defBody s_lw_is_room) (defScope s_lw_is_room) .none kV_lw_is_room dc_lw_is_room pm_lw_is_room an_lw_is_room cd_lw_is_room ct_lw_is_room), f_lw_deal, (PySem.W.fnOf "_law_deal" "_law_deal" (defArgs s_lw_deal) (defBody s_lw_deal) (defScope s_lw_deal) .none kV_lw_deal dc_lw_deal pm_lw_deal an_lw_deal cd_lw_deal ct_lw_deal), f_lw_draw, (PySem.W.fnOf "_law_draw" "_law_draw" (defArgs s_lw_draw) (defBody s_lw_draw) (defScope s_lw_draw) .none kV_lw_draw dc_lw_draw pm_lw_draw an_lw_draw cd_lw_draw ct_lw_draw), f_lw_pick, (PySem.W.fnOf "_law_pick" "_law_pick" (defArgs s_lw_pick) (defBody s_lw_pick) (defScope s_lw_pick) .none kV_lw_pick dc_lw_pick pm_lw_pick an_lw_pick cd_lw_pick ct_lw_pick), f_lw_mixed, (PySem.W.fnOf "_law_mixed" "_law_mixed" (defArgs s_lw_mixed) (defBody s_lw_mixed) (defScope s_lw_mixed) .none kV_lw_mixed dc_lw_mixed pm_lw_mixed an_lw_mixed cd_lw_mixed ct_lw_mixed), f_lw_names, (PySem.W.fnOf "_law_names" "_law_names" (defArgs s_lw_names) (defBody s_lw_names) (defScope s_lw_names) .none kV_lw_names dc_lw_names pm_lw_names an_lw_names cd_lw_names ct_lw_names), f_lw_with, (PySem.W.fnOf "_law_with" "_law_with" (defArgs s_lw_with) (defBody s_lw_with) (defScope s_lw_with) .none kV_lw_with dc_lw_with pm_lw_with an_lw_with cd_lw_with ct_lw_with), f_lw_main, (PySem.W.fnOf "law" "law" (defArgs s_lw_main) (defBody s_lw_main) (defScope s_lw_main) .none kV_lw_main dc_lw_main pm_lw_main an_lw_main cd_lw_main ct_lw_main)⟩, e2, ?_, fun s v => .of_eq rfl, rfl⟩
  constructor
  · exact ⟨pg_Rule, hd_Rule, po_Rule, sa_Rule⟩
  · exact PySem.W.mg_of X G aC_Rule
  · exact ⟨mk_Rule, a_Rule_init, i_Rule_init, kc_Rule⟩
  · exact ⟨⟨pg_Rule, hd_Rule, po_Rule, sa_Rule⟩, ha_Rule, hn_Rule, htk_Rule, hm_Rule, by unfold PySem.W.kitOne; simp⟩
  · exact no_Rule_name
  · exact no_Rule_gone
  · exact ⟨nd_Rule, hm_Rule⟩
  · unfold PySem.W.notFirst
    rw [sx_Rule]
    simp
  · unfold PySem.W.notFirst
    rw [sn_Room_Rule]
    simp
  · exact ⟨pg_Room, hd_Room, po_Room, sa_Room⟩
  · exact PySem.W.mg_of X G aC_Room
  · exact ⟨mk_Room, a_Room_init, i_Room_init, kc_Room⟩
  · exact ⟨⟨pg_Room, hd_Room, po_Room, sa_Room⟩, ha_Room, hn_Room, htk_Room, hm_Room, by unfold PySem.W.kitOne; simp⟩
  · exact no_Room_rules
  · exact no_Room_names
  · exact PySem.W.mg_of X G aC_InvalidDrawing
  · exact ⟨⟨nm_InvalidDrawing, q_InvalidDrawing, N_InvalidDrawing, bs_InvalidDrawing, _, sn_InvalidDrawing, sub_InvalidDrawing, ab_InvalidDrawing, col_InvalidDrawing, dd_InvalidDrawing, m0_InvalidDrawing, m1_InvalidDrawing, m2_InvalidDrawing, m3_InvalidDrawing, m5_InvalidDrawing, xL_InvalidDrawing, rfl⟩, sa_InvalidDrawing, eC_InvalidDrawing, tC_InvalidDrawing, kC_InvalidDrawing⟩
  · exact a_InvalidDrawing_init
  · exact tI_InvalidDrawing
  · exact nb_InvalidDrawing
  · exact ⟨ga_InvalidDrawing, gg_InvalidDrawing, eC_InvalidDrawing, hC_InvalidDrawing⟩
  · exact ⟨ga_InvalidDrawing, gg_InvalidDrawing, eC_InvalidDrawing, hC_InvalidDrawing, hA_InvalidDrawing, hN_InvalidDrawing, hT_InvalidDrawing, hM_InvalidDrawing⟩
  · exact PySem.W.exm_ref eC_InvalidDrawing hC_InvalidDrawing tC_InvalidDrawing sC_InvalidDrawing
  · exact PySem.W.mg_of X G aC_InvalidRule
  · exact ⟨⟨nm_InvalidRule, q_InvalidRule, N_InvalidRule, bs_InvalidRule, _, sn_InvalidRule, sub_InvalidRule, ab_InvalidRule, col_InvalidRule, dd_InvalidRule, m0_InvalidRule, m1_InvalidRule, m2_InvalidRule, m3_InvalidRule, m5_InvalidRule, xL_InvalidRule, rfl⟩, sa_InvalidRule, eC_InvalidRule, tC_InvalidRule, kC_InvalidRule⟩
  · exact a_InvalidRule_init
  · exact tI_InvalidRule
  · exact nb_InvalidRule
  · exact ⟨ga_InvalidRule, gg_InvalidRule, eC_InvalidRule, hC_InvalidRule⟩
  · exact ⟨ga_InvalidRule, gg_InvalidRule, eC_InvalidRule, hC_InvalidRule, hA_InvalidRule, hN_InvalidRule, hT_InvalidRule, hM_InvalidRule⟩
  · exact PySem.W.exm_ref eC_InvalidRule hC_InvalidRule tC_InvalidRule sC_InvalidRule
  · intro n hn
    simp only [List.mem_cons, List.not_mem_nil, or_false] at hn
    rcases hn with rfl | rfl | rfl | rfl | rfl | rfl
    · exact GX.kit_tyref iL_Room tL_Room sb_NoneType_Room
    · exact GX.kit_tyref iL_Room tL_Room sb_bool_Room
    · exact GX.kit_tyref iL_Room tL_Room sb_int_Room
    · exact GX.kit_tyref iL_Room tL_Room sb_str_Room
    · exact GX.kit_tyref iL_Room tL_Room sb_list_Room
    · exact GX.kit_tyref iL_Room tL_Room sb_tuple_Room
  · exact GX.kit_ref iL_Room tL_Room so_Rule_Room so_Rule_Rule
  · exact GX.kit_ref iL_Room tL_Room so_Room_Room so_Room_Room
  · intro n hn
    simp only [List.mem_cons, List.not_mem_nil, or_false] at hn
    rcases hn with rfl | rfl | rfl | rfl | rfl | rfl
    · exact GX.kit_tyref iL_Rule tL_Rule sb_NoneType_Rule
    · exact GX.kit_tyref iL_Rule tL_Rule sb_bool_Rule
    · exact GX.kit_tyref iL_Rule tL_Rule sb_int_Rule
    · exact GX.kit_tyref iL_Rule tL_Rule sb_str_Rule
    · exact GX.kit_tyref iL_Rule tL_Rule sb_list_Rule
    · exact GX.kit_tyref iL_Rule tL_Rule sb_tuple_Rule
  · exact GX.kit_ref iL_Rule tL_Rule so_Rule_Rule so_Rule_Rule
  · exact GX.kit_ref iL_Rule tL_Rule so_Room_Rule so_Room_Room
  · exact fun_mk (st := s_is_int) l_is_int c_is_int k_is_int
  · exact (fun_mk (st := s_is_int) l_is_int c_is_int k_is_int).binds (ps := ["value"]) fun _ _ _ _ _ _ us hl => match us, hl with | [_], _ => rfl
  · exact PySem.W.mg_of X G a_is_int
  · exact fun_mk (st := s_is_index) l_is_index c_is_index k_is_index
  · exact (fun_mk (st := s_is_index) l_is_index c_is_index k_is_index).binds (ps := ["value", "many"]) fun _ _ _ _ _ _ us hl => match us, hl with | [_, _], _ => rfl
  · exact PySem.W.mg_of X G a_is_index
  · exact fun_mk (st := s_is_name) l_is_name c_is_name k_is_name
  · exact (fun_mk (st := s_is_name) l_is_name c_is_name k_is_name).binds (ps := ["value"]) fun _ _ _ _ _ _ us hl => match us, hl with | [_], _ => rfl
  · exact PySem.W.mg_of X G a_is_name
  · exact fun_mk (st := s_is_sequence) l_is_sequence c_is_sequence k_is_sequence
  · exact (fun_mk (st := s_is_sequence) l_is_sequence c_is_sequence k_is_sequence).binds (ps := ["value"]) fun _ _ _ _ _ _ us hl => match us, hl with | [_], _ => rfl
  · exact PySem.W.mg_of X G a_is_sequence
  · exact fun_mk (st := s_are_names) l_are_names c_are_names k_are_names
  · exact (fun_mk (st := s_are_names) l_are_names c_are_names k_are_names).binds (ps := ["value"]) fun _ _ _ _ _ _ us hl => match us, hl with | [_], _ => rfl
  · exact PySem.W.mg_of X G a_are_names
  · exact fun_mk (st := s_are_unlike) l_are_unlike c_are_unlike k_are_unlike
  · exact (fun_mk (st := s_are_unlike) l_are_unlike c_are_unlike k_are_unlike).binds (ps := ["value"]) fun _ _ _ _ _ _ us hl => match us, hl with | [_], _ => rfl
  · exact PySem.W.mg_of X G a_are_unlike
  · exact fun_mk (st := s_lot_of) l_lot_of c_lot_of k_lot_of
  · exact (fun_mk (st := s_lot_of) l_lot_of c_lot_of k_lot_of).binds (ps := ["names"]) fun _ _ _ _ _ _ us hl => match us, hl with | [_], _ => rfl
  · exact PySem.W.mg_of X G a_lot_of
  · exact fun_mk (st := s_bits_of) l_bits_of c_bits_of k_bits_of
  · exact (fun_mk (st := s_bits_of) l_bits_of c_bits_of k_bits_of).binds (ps := ["names", "some"]) fun _ _ _ _ _ _ us hl => match us, hl with | [_, _], _ => rfl
  · exact PySem.W.mg_of X G a_bits_of
  · exact fun_mk (st := s_names_of) l_names_of c_names_of k_names_of
  · exact (fun_mk (st := s_names_of) l_names_of c_names_of k_names_of).binds (ps := ["names", "bits"]) fun _ _ _ _ _ _ us hl => match us, hl with | [_, _], _ => rfl
  · exact PySem.W.mg_of X G a_names_of
  · exact fun_mk (st := s_InvalidRule_init) l_InvalidRule_init c_InvalidRule_init k_InvalidRule_init
  · exact (fun_mk (st := s_InvalidRule_init) l_InvalidRule_init c_InvalidRule_init k_InvalidRule_init).binds (ps := ["self", "word"]) fun _ _ _ _ _ _ us hl => match us, hl with | [_, _], _ => rfl
  · exact fun_mk (st := s_InvalidDrawing_init) l_InvalidDrawing_init c_InvalidDrawing_init k_InvalidDrawing_init
  · exact (fun_mk (st := s_InvalidDrawing_init) l_InvalidDrawing_init c_InvalidDrawing_init k_InvalidDrawing_init).binds (ps := ["self", "at"]) fun _ _ _ _ _ _ us hl => match us, hl with | [_, _], _ => rfl
  · exact fun_mk (st := s_may) l_may c_may k_may
  · exact (fun_mk (st := s_may) l_may c_may k_may).binds (ps := ["room", "gone"]) fun _ _ _ _ _ _ us hl => match us, hl with | [_, _], _ => rfl
  · exact PySem.W.mg_of X G a_may
  · exact fun_mk (st := s_is_fulfilled) l_is_fulfilled c_is_fulfilled k_is_fulfilled
  · exact (fun_mk (st := s_is_fulfilled) l_is_fulfilled c_is_fulfilled k_is_fulfilled).binds (ps := ["rule", "gone"]) fun _ _ _ _ _ _ us hl => match us, hl with | [_, _], _ => rfl
  · exact PySem.W.mg_of X G a_is_fulfilled
  · exact fun_mk (st := s_lots) l_lots c_lots k_lots
  · exact (fun_mk (st := s_lots) l_lots c_lots k_lots).binds (ps := ["room"]) fun _ _ _ _ _ _ us hl => match us, hl with | [_], _ => rfl
  · exact PySem.W.mg_of X G a_lots
  · exact fun_mk (st := s_lots_after) l_lots_after c_lots_after k_lots_after
  · exact (fun_mk (st := s_lots_after) l_lots_after c_lots_after k_lots_after).binds (ps := ["room"]) fun _ _ _ _ _ _ us hl => match us, hl with | [_], _ => rfl
  · exact PySem.W.mg_of X G a_lots_after
  · exact fun_mk (st := s_others) l_others c_others k_others
  · exact (fun_mk (st := s_others) l_others c_others k_others).binds (ps := ["room", "names"]) fun _ _ _ _ _ _ us hl => match us, hl with | [_, _], _ => rfl
  · exact PySem.W.mg_of X G a_others
  · exact (⟨⟨_, _, _, _, _, _, _, _, _, _, rfl, l_leavers, c_leavers, .inr ⟨by simp, _, _, [.ref e_leavers], _, rfl, lT_leavers, rfl, .cons rfl .nil⟩, .inl rfl⟩, k_leavers⟩ : FunD K _ _ _ _ _ [V.ref e_leavers] [] f_leavers _)
  · have F := (⟨⟨_, _, _, _, _, _, _, _, _, _, rfl, l_leavers, c_leavers, .inr ⟨by simp, _, _, [.ref e_leavers], _, rfl, lT_leavers, rfl, .cons rfl .nil⟩, .inl rfl⟩, k_leavers⟩ : FunD K _ _ _ _ _ [V.ref e_leavers] [] f_leavers _)
    obtain ⟨ds, v, b⟩ := F.binds1 (ps := ["room", "staying", "gone"]) 3 1 (by simp) rfl (fun _ _ _ _ _ _ _ us its h1 h2 => by
      match us, h1, its, h2 with
      | [_, _, _], _, [_], _ => exact ⟨_, rfl, rfl⟩)
    cases v
    exact b
  · have F := (⟨⟨_, _, _, _, _, _, _, _, _, _, rfl, l_leavers, c_leavers, .inr ⟨by simp, _, _, [.ref e_leavers], _, rfl, lT_leavers, rfl, .cons rfl .nil⟩, .inl rfl⟩, k_leavers⟩ : FunD K _ _ _ _ _ [V.ref e_leavers] [] f_leavers _)
    exact F.binds1 (ps := ["room", "staying", "gone"]) 2 0 (by simp) rfl (fun _ _ _ _ _ _ _ us its h1 h2 => by
      match us, h1, its, h2 with
      | [_, _], _, [_], _ => exact ⟨_, rfl, rfl⟩)
  · exact fun M => .inr ⟨_, #[], _, lE_leavers, rfl, rfl, Nat.zero_le _, .nil⟩
  · exact PySem.W.mg_of X G a_leavers
  · exact fun_mk (st := s_stuck) l_stuck c_stuck k_stuck
  · exact (fun_mk (st := s_stuck) l_stuck c_stuck k_stuck).binds (ps := ["room"]) fun _ _ _ _ _ _ us hl => match us, hl with | [_], _ => rfl
  · exact PySem.W.mg_of X G a_stuck
  · exact fun_mk (st := s_hull) l_hull c_hull k_hull
  · exact (fun_mk (st := s_hull) l_hull c_hull k_hull).binds (ps := ["room", "staying"]) fun _ _ _ _ _ _ us hl => match us, hl with | [_, _], _ => rfl
  · exact PySem.W.mg_of X G a_hull
  · exact (⟨⟨_, _, _, _, _, _, _, _, _, _, rfl, l_Rule_init, c_Rule_init, .inr ⟨by simp, _, _, [.ref e_Rule_init], _, rfl, lT_Rule_init, rfl, .cons rfl .nil⟩, .inl rfl⟩, k_Rule_init⟩ : FunD K _ _ _ _ _ [V.ref e_Rule_init] [] f_Rule_init _)
  · have F := (⟨⟨_, _, _, _, _, _, _, _, _, _, rfl, l_Rule_init, c_Rule_init, .inr ⟨by simp, _, _, [.ref e_Rule_init], _, rfl, lT_Rule_init, rfl, .cons rfl .nil⟩, .inl rfl⟩, k_Rule_init⟩ : FunD K _ _ _ _ _ [V.ref e_Rule_init] [] f_Rule_init _)
    obtain ⟨ds, v, b⟩ := F.binds1 (ps := ["self", "name", "gone"]) 3 1 (by simp) rfl (fun _ _ _ _ _ _ _ us its h1 h2 => by
      match us, h1, its, h2 with
      | [_, _, _], _, [_], _ => exact ⟨_, rfl, rfl⟩)
    cases v
    exact b
  · have F := (⟨⟨_, _, _, _, _, _, _, _, _, _, rfl, l_Rule_init, c_Rule_init, .inr ⟨by simp, _, _, [.ref e_Rule_init], _, rfl, lT_Rule_init, rfl, .cons rfl .nil⟩, .inl rfl⟩, k_Rule_init⟩ : FunD K _ _ _ _ _ [V.ref e_Rule_init] [] f_Rule_init _)
    exact F.binds1 (ps := ["self", "name", "gone"]) 2 0 (by simp) rfl (fun _ _ _ _ _ _ _ us its h1 h2 => by
      match us, h1, its, h2 with
      | [_, _], _, [_], _ => exact ⟨_, rfl, rfl⟩)
  · exact fun M => .inr ⟨_, #[], _, lE_Rule_init, rfl, rfl, Nat.zero_le _, .nil⟩
  · exact fun_mk (st := s_Rule_eq) l_Rule_eq c_Rule_eq k_Rule_eq
  · exact (fun_mk (st := s_Rule_eq) l_Rule_eq c_Rule_eq k_Rule_eq).binds (ps := ["self", "other"]) fun _ _ _ _ _ _ us hl => match us, hl with | [_, _], _ => rfl
  · exact ⟨a_Rule_eq, i_Rule_eq, k_Rule_eq⟩
  · exact fun_mk (st := s_Rule_str) l_Rule_str c_Rule_str k_Rule_str
  · exact (fun_mk (st := s_Rule_str) l_Rule_str c_Rule_str k_Rule_str).binds (ps := ["self"]) fun _ _ _ _ _ _ us hl => match us, hl with | [_], _ => rfl
  · exact ⟨a_Rule_str, i_Rule_str, k_Rule_str⟩
  · exact fun_mk (st := s_read_rule) l_read_rule c_read_rule k_read_rule
  · exact (fun_mk (st := s_read_rule) l_read_rule c_read_rule k_read_rule).binds (ps := ["line"]) fun _ _ _ _ _ _ us hl => match us, hl with | [_], _ => rfl
  · exact PySem.W.mg_of X G a_read_rule
  · exact (⟨⟨_, _, _, _, _, _, _, _, _, _, rfl, l_Room_init, c_Room_init, .inr ⟨by simp, _, _, [.ref e_Room_init], _, rfl, lT_Room_init, rfl, .cons rfl .nil⟩, .inl rfl⟩, k_Room_init⟩ : FunD K _ _ _ _ _ [V.ref e_Room_init] [] f_Room_init _)
  · have F := (⟨⟨_, _, _, _, _, _, _, _, _, _, rfl, l_Room_init, c_Room_init, .inr ⟨by simp, _, _, [.ref e_Room_init], _, rfl, lT_Room_init, rfl, .cons rfl .nil⟩, .inl rfl⟩, k_Room_init⟩ : FunD K _ _ _ _ _ [V.ref e_Room_init] [] f_Room_init _)
    obtain ⟨ds, v, b⟩ := F.binds1 (ps := ["self", "rules"]) 2 1 (by simp) rfl (fun _ _ _ _ _ _ _ us its h1 h2 => by
      match us, h1, its, h2 with
      | [_, _], _, [_], _ => exact ⟨_, rfl, rfl⟩)
    cases v
    exact b
  · have F := (⟨⟨_, _, _, _, _, _, _, _, _, _, rfl, l_Room_init, c_Room_init, .inr ⟨by simp, _, _, [.ref e_Room_init], _, rfl, lT_Room_init, rfl, .cons rfl .nil⟩, .inl rfl⟩, k_Room_init⟩ : FunD K _ _ _ _ _ [V.ref e_Room_init] [] f_Room_init _)
    exact F.binds1 (ps := ["self", "rules"]) 1 0 (by simp) rfl (fun _ _ _ _ _ _ _ us its h1 h2 => by
      match us, h1, its, h2 with
      | [_], _, [_], _ => exact ⟨_, rfl, rfl⟩)
  · exact fun M => .inr ⟨_, #[], _, lE_Room_init, rfl, rfl, Nat.zero_le _, .nil⟩
  · exact fun_mk (st := s_Room_read) l_Room_read c_Room_read k_Room_read
  · exact (fun_mk (st := s_Room_read) l_Room_read c_Room_read k_Room_read).binds (ps := ["cls", "text"]) fun _ _ _ _ _ _ us hl => match us, hl with | [_, _], _ => rfl
  · exact ⟨cmf_Room_read, ⟨_, cmr_Room_read⟩, cmi_Room_read⟩
  · exact ⟨crd_Room, cga_Room⟩
  · exact fun_mk (st := s_Room_without) l_Room_without c_Room_without k_Room_without
  · exact (fun_mk (st := s_Room_without) l_Room_without c_Room_without k_Room_without).binds (ps := ["self", "at"]) fun _ _ _ _ _ _ us hl => match us, hl with | [_, _], _ => rfl
  · exact ⟨a_Room_without, i_Room_without, k_Room_without⟩
  · exact fun_mk (st := s_Room_len) l_Room_len c_Room_len k_Room_len
  · exact (fun_mk (st := s_Room_len) l_Room_len c_Room_len k_Room_len).binds (ps := ["self"]) fun _ _ _ _ _ _ us hl => match us, hl with | [_], _ => rfl
  · exact ⟨a_Room_len, i_Room_len, k_Room_len⟩
  · exact fun_mk (st := s_Room_getitem) l_Room_getitem c_Room_getitem k_Room_getitem
  · exact (fun_mk (st := s_Room_getitem) l_Room_getitem c_Room_getitem k_Room_getitem).binds (ps := ["self", "at"]) fun _ _ _ _ _ _ us hl => match us, hl with | [_, _], _ => rfl
  · exact ⟨a_Room_getitem, i_Room_getitem, k_Room_getitem⟩
  · exact fun_mk (st := s_Room_add) l_Room_add c_Room_add k_Room_add
  · exact (fun_mk (st := s_Room_add) l_Room_add c_Room_add k_Room_add).binds (ps := ["self", "other"]) fun _ _ _ _ _ _ us hl => match us, hl with | [_, _], _ => rfl
  · exact ⟨a_Room_add, i_Room_add, k_Room_add⟩
  · exact fun_mk (st := s_Room_eq) l_Room_eq c_Room_eq k_Room_eq
  · exact (fun_mk (st := s_Room_eq) l_Room_eq c_Room_eq k_Room_eq).binds (ps := ["self", "other"]) fun _ _ _ _ _ _ us hl => match us, hl with | [_, _], _ => rfl
  · exact ⟨a_Room_eq, i_Room_eq, k_Room_eq⟩
  · exact fun_mk (st := s_Room_str) l_Room_str c_Room_str k_Room_str
  · exact (fun_mk (st := s_Room_str) l_Room_str c_Room_str k_Room_str).binds (ps := ["self"]) fun _ _ _ _ _ _ us hl => match us, hl with | [_], _ => rfl
  · exact ⟨a_Room_str, i_Room_str, k_Room_str⟩
  · exact fun_mk (st := s_least_meeting) l_least_meeting c_least_meeting k_least_meeting
  · exact (fun_mk (st := s_least_meeting) l_least_meeting c_least_meeting k_least_meeting).binds (ps := ["parts"]) fun _ _ _ _ _ _ us hl => match us, hl with | [_], _ => rfl
  · exact PySem.W.mg_of X G a_least_meeting
  · exact fun_mk (st := s_ones_of) l_ones_of c_ones_of k_ones_of
  · exact (fun_mk (st := s_ones_of) l_ones_of c_ones_of k_ones_of).binds (ps := ["bits"]) fun _ _ _ _ _ _ us hl => match us, hl with | [_], _ => rfl
  · exact PySem.W.mg_of X G a_ones_of
  · exact fun_mk (st := s_has_one_of) l_has_one_of c_has_one_of k_has_one_of
  · exact (fun_mk (st := s_has_one_of) l_has_one_of c_has_one_of k_has_one_of).binds (ps := ["bits", "lots"]) fun _ _ _ _ _ _ us hl => match us, hl with | [_, _], _ => rfl
  · exact PySem.W.mg_of X G a_has_one_of
  · exact fun_mk (st := s_tree) l_tree c_tree k_tree
  · exact (fun_mk (st := s_tree) l_tree c_tree k_tree).binds (ps := ["edges"]) fun _ _ _ _ _ _ us hl => match us, hl with | [_], _ => rfl
  · exact PySem.W.mg_of X G a_tree
  · exact fun_mk (st := s_taken_down) l_taken_down c_taken_down k_taken_down
  · exact (fun_mk (st := s_taken_down) l_taken_down c_taken_down k_taken_down).binds (ps := ["edges"]) fun _ _ _ _ _ _ us hl => match us, hl with | [_], _ => rfl
  · exact PySem.W.mg_of X G a_taken_down
  · exact fun_mk (st := s_check_edges) l_check_edges c_check_edges k_check_edges
  · exact (fun_mk (st := s_check_edges) l_check_edges c_check_edges k_check_edges).binds (ps := ["edges"]) fun _ _ _ _ _ _ us hl => match us, hl with | [_], _ => rfl
  · exact PySem.W.mg_of X G a_check_edges
  · exact fun_mk (st := s_is_tuple_of) l_is_tuple_of c_is_tuple_of k_is_tuple_of
  · exact (fun_mk (st := s_is_tuple_of) l_is_tuple_of c_is_tuple_of k_is_tuple_of).binds (ps := ["value", "many"]) fun _ _ _ _ _ _ us hl => match us, hl with | [_, _], _ => rfl
  · exact PySem.W.mg_of X G a_is_tuple_of
  · exact fun_mk (st := s_ring_at) l_ring_at c_ring_at k_ring_at
  · exact (fun_mk (st := s_ring_at) l_ring_at c_ring_at k_ring_at).binds (ps := ["edges"]) fun _ _ _ _ _ _ us hl => match us, hl with | [_], _ => rfl
  · exact PySem.W.mg_of X G a_ring_at
  · exact fun_mk (st := s_are_joined) l_are_joined c_are_joined k_are_joined
  · exact (fun_mk (st := s_are_joined) l_are_joined c_are_joined k_are_joined).binds (ps := ["edges", "one", "other"]) fun _ _ _ _ _ _ us hl => match us, hl with | [_, _, _], _ => rfl
  · exact PySem.W.mg_of X G a_are_joined
  · exact fun_mk (st := s_unjoined_beside) l_unjoined_beside c_unjoined_beside k_unjoined_beside
  · exact (fun_mk (st := s_unjoined_beside) l_unjoined_beside c_unjoined_beside k_unjoined_beside).binds (ps := ["edges", "names", "corner"]) fun _ _ _ _ _ _ us hl => match us, hl with | [_, _, _], _ => rfl
  · exact PySem.W.mg_of X G a_unjoined_beside
  · exact fun_mk (st := s_room_kept_by) l_room_kept_by c_room_kept_by k_room_kept_by
  · exact (fun_mk (st := s_room_kept_by) l_room_kept_by c_room_kept_by k_room_kept_by).binds (ps := ["parts"]) fun _ _ _ _ _ _ us hl => match us, hl with | [_], _ => rfl
  · exact PySem.W.mg_of X G a_room_kept_by
  · exact fun_mk (st := s_lw_forest) l_lw_forest c_lw_forest k_lw_forest
  · exact (fun_mk (st := s_lw_forest) l_lw_forest c_lw_forest k_lw_forest).binds (ps := ["_law_deal_here", "_law_names_here"]) fun _ _ _ _ _ _ us hl => match us, hl with | [_, _], _ => rfl
  · exact PySem.W.mg_of X G a_lw_forest
  · exact fun_mk (st := s_lw_corners) l_lw_corners c_lw_corners k_lw_corners
  · exact (fun_mk (st := s_lw_corners) l_lw_corners c_lw_corners k_lw_corners).binds (ps := ["_law_edges"]) fun _ _ _ _ _ _ us hl => match us, hl with | [_], _ => rfl
  · exact PySem.W.mg_of X G a_lw_corners
  · exact fun_mk (st := s_lw_beside) l_lw_beside c_lw_beside k_lw_beside
  · exact (fun_mk (st := s_lw_beside) l_lw_beside c_lw_beside k_lw_beside).binds (ps := ["_law_edges", "_law_name", "_law_gone"]) fun _ _ _ _ _ _ us hl => match us, hl with | [_, _, _], _ => rfl
  · exact PySem.W.mg_of X G a_lw_beside
  · exact fun_mk (st := s_lw_lots_by) l_lw_lots_by c_lw_lots_by k_lw_lots_by
  · exact (fun_mk (st := s_lw_lots_by) l_lw_lots_by c_lw_lots_by k_lw_lots_by).binds (ps := ["_law_names_here", "_law_free_at"]) fun _ _ _ _ _ _ us hl => match us, hl with | [_, _], _ => rfl
  · exact PySem.W.mg_of X G a_lw_lots_by
  · exact fun_mk (st := s_lw_is_room) l_lw_is_room c_lw_is_room k_lw_is_room
  · exact (fun_mk (st := s_lw_is_room) l_lw_is_room c_lw_is_room k_lw_is_room).binds (ps := ["_law_made", "_law_names_here", "_law_due"]) fun _ _ _ _ _ _ us hl => match us, hl with | [_, _, _], _ => rfl
  · exact PySem.W.mg_of X G a_lw_is_room
  · exact fun_mk (st := s_lw_deal) l_lw_deal c_lw_deal k_lw_deal
  · exact (fun_mk (st := s_lw_deal) l_lw_deal c_lw_deal k_lw_deal).binds (ps := ["_law_script", "_law_base"]) fun _ _ _ _ _ _ us hl => match us, hl with | [_, _], _ => rfl
  · exact PySem.W.mg_of X G a_lw_deal
  · exact fun_mk (st := s_lw_draw) l_lw_draw c_lw_draw k_lw_draw
  · exact (fun_mk (st := s_lw_draw) l_lw_draw c_lw_draw k_lw_draw).binds (ps := ["_law_deal_here", "_law_bound"]) fun _ _ _ _ _ _ us hl => match us, hl with | [_, _], _ => rfl
  · exact PySem.W.mg_of X G a_lw_draw
  · exact fun_mk (st := s_lw_pick) l_lw_pick c_lw_pick k_lw_pick
  · exact (fun_mk (st := s_lw_pick) l_lw_pick c_lw_pick k_lw_pick).binds (ps := ["_law_deal_here", "_law_some"]) fun _ _ _ _ _ _ us hl => match us, hl with | [_, _], _ => rfl
  · exact PySem.W.mg_of X G a_lw_pick
  · exact fun_mk (st := s_lw_mixed) l_lw_mixed c_lw_mixed k_lw_mixed
  · exact (fun_mk (st := s_lw_mixed) l_lw_mixed c_lw_mixed k_lw_mixed).binds (ps := ["_law_deal_here", "_law_some"]) fun _ _ _ _ _ _ us hl => match us, hl with | [_, _], _ => rfl
  · exact PySem.W.mg_of X G a_lw_mixed
  · exact fun_mk (st := s_lw_names) l_lw_names c_lw_names k_lw_names
  · exact (fun_mk (st := s_lw_names) l_lw_names c_lw_names k_lw_names).binds (ps := ["_law_deal_here", "_law_bound"]) fun _ _ _ _ _ _ us hl => match us, hl with | [_, _], _ => rfl
  · exact PySem.W.mg_of X G a_lw_names
  · exact fun_mk (st := s_lw_with) l_lw_with c_lw_with k_lw_with
  · exact (fun_mk (st := s_lw_with) l_lw_with c_lw_with k_lw_with).binds (ps := ["_law_lot", "_law_name"]) fun _ _ _ _ _ _ us hl => match us, hl with | [_, _], _ => rfl
  · exact PySem.W.mg_of X G a_lw_with
  · exact fun_mk (st := s_lw_main) l_lw_main c_lw_main k_lw_main
  · exact (fun_mk (st := s_lw_main) l_lw_main c_lw_main k_lw_main).binds (ps := ["_law_script"]) fun _ _ _ _ _ _ us hl => match us, hl with | [_], _ => rfl
  · exact PySem.W.mg_of X G a_lw_main
  · exact PySem.W.mg_none_of X G n_abs
  · exact PySem.W.mg_none_of X G n_all
  · exact PySem.W.mg_none_of X G n_any
  · exact PySem.W.mg_none_of X G n_bool
  · exact PySem.W.mg_none_of X G n_enumerate
  · exact PySem.W.mg_none_of X G n_int
  · exact PySem.W.mg_none_of X G n_isinstance
  · exact PySem.W.mg_none_of X G n_len
  · exact PySem.W.mg_none_of X G n_list
  · exact PySem.W.mg_none_of X G n_max
  · exact PySem.W.mg_none_of X G n_min
  · exact PySem.W.mg_none_of X G n_range
  · exact PySem.W.mg_none_of X G n_set
  · exact PySem.W.mg_none_of X G n_sorted
  · exact PySem.W.mg_none_of X G n_str
  · exact PySem.W.mg_none_of X G n_sum
  · exact PySem.W.mg_none_of X G n_tuple
  · exact ⟨_, PySem.W.mg_of X G m_LETTERS, _, rfl⟩
theorem law_at {l : PySem.W.OpenLaw} {w : World} {K : PySem.W.Frag} {h : Heap} {mg : Str → Option Value} {fa : Addr} (X : K.In h) (G : h.Ns mainGlobals mg) (hfa : mg "law" = some (.ref fa))
    {C_Rule : Addr}
    {C_Room : Addr}
    {C_InvalidDrawing R0_InvalidDrawing : Addr} {nm_InvalidDrawing q_InvalidDrawing : Str} {N_InvalidDrawing : Addr} {bs_InvalidDrawing : List Value} {sn_InvalidDrawing : List Str} {sub_InvalidDrawing : List Value} {ab_InvalidDrawing : Bool} {col_InvalidDrawing : Option Bool} {dd_InvalidDrawing : Option Addr} {m0_InvalidDrawing m1_InvalidDrawing m2_InvalidDrawing m3_InvalidDrawing m5_InvalidDrawing : Option Value}
    {C_InvalidRule R0_InvalidRule : Addr} {nm_InvalidRule q_InvalidRule : Str} {N_InvalidRule : Addr} {bs_InvalidRule : List Value} {sn_InvalidRule : List Str} {sub_InvalidRule : List Value} {ab_InvalidRule : Bool} {col_InvalidRule : Option Bool} {dd_InvalidRule : Option Addr} {m0_InvalidRule m1_InvalidRule m2_InvalidRule m3_InvalidRule m5_InvalidRule : Option Value}
    {f_is_int : Addr} {od_is_int an_is_int : Option Addr} {sl_is_int : Array (Option Value)} {oc_is_int kV_is_int dc_is_int pm_is_int cd_is_int ct_is_int : Value}
    {f_is_index : Addr} {od_is_index an_is_index : Option Addr} {sl_is_index : Array (Option Value)} {oc_is_index kV_is_index dc_is_index pm_is_index cd_is_index ct_is_index : Value}
    {f_is_name : Addr} {od_is_name an_is_name : Option Addr} {sl_is_name : Array (Option Value)} {oc_is_name kV_is_name dc_is_name pm_is_name cd_is_name ct_is_name : Value}
    {f_is_sequence : Addr} {od_is_sequence an_is_sequence : Option Addr} {sl_is_sequence : Array (Option Value)} {oc_is_sequence kV_is_sequence dc_is_sequence pm_is_sequence cd_is_sequence ct_is_sequence : Value}
    {f_are_names : Addr} {od_are_names an_are_names : Option Addr} {sl_are_names : Array (Option Value)} {oc_are_names kV_are_names dc_are_names pm_are_names cd_are_names ct_are_names : Value}
    {f_are_unlike : Addr} {od_are_unlike an_are_unlike : Option Addr} {sl_are_unlike : Array (Option Value)} {oc_are_unlike kV_are_unlike dc_are_unlike pm_are_unlike cd_are_unlike ct_are_unlike : Value}
    {f_lot_of : Addr} {od_lot_of an_lot_of : Option Addr} {sl_lot_of : Array (Option Value)} {oc_lot_of kV_lot_of dc_lot_of pm_lot_of cd_lot_of ct_lot_of : Value}
    {f_bits_of : Addr} {od_bits_of an_bits_of : Option Addr} {sl_bits_of : Array (Option Value)} {oc_bits_of kV_bits_of dc_bits_of pm_bits_of cd_bits_of ct_bits_of : Value}
    {f_names_of : Addr} {od_names_of an_names_of : Option Addr} {sl_names_of : Array (Option Value)} {oc_names_of kV_names_of dc_names_of pm_names_of cd_names_of ct_names_of : Value}
    {f_InvalidRule_init : Addr} {od_InvalidRule_init an_InvalidRule_init : Option Addr} {sl_InvalidRule_init : Array (Option Value)} {oc_InvalidRule_init kV_InvalidRule_init dc_InvalidRule_init pm_InvalidRule_init cd_InvalidRule_init ct_InvalidRule_init : Value}
    {f_InvalidDrawing_init : Addr} {od_InvalidDrawing_init an_InvalidDrawing_init : Option Addr} {sl_InvalidDrawing_init : Array (Option Value)} {oc_InvalidDrawing_init kV_InvalidDrawing_init dc_InvalidDrawing_init pm_InvalidDrawing_init cd_InvalidDrawing_init ct_InvalidDrawing_init : Value}
    {f_may : Addr} {od_may an_may : Option Addr} {sl_may : Array (Option Value)} {oc_may kV_may dc_may pm_may cd_may ct_may : Value}
    {f_is_fulfilled : Addr} {od_is_fulfilled an_is_fulfilled : Option Addr} {sl_is_fulfilled : Array (Option Value)} {oc_is_fulfilled kV_is_fulfilled dc_is_fulfilled pm_is_fulfilled cd_is_fulfilled ct_is_fulfilled : Value}
    {f_lots : Addr} {od_lots an_lots : Option Addr} {sl_lots : Array (Option Value)} {oc_lots kV_lots dc_lots pm_lots cd_lots ct_lots : Value}
    {f_lots_after : Addr} {od_lots_after an_lots_after : Option Addr} {sl_lots_after : Array (Option Value)} {oc_lots_after kV_lots_after dc_lots_after pm_lots_after cd_lots_after ct_lots_after : Value}
    {f_others : Addr} {od_others an_others : Option Addr} {sl_others : Array (Option Value)} {oc_others kV_others dc_others pm_others cd_others ct_others : Value}
    {f_leavers : Addr} {od_leavers an_leavers : Option Addr} {sl_leavers : Array (Option Value)} {oc_leavers kV_leavers dc_leavers pm_leavers cd_leavers ct_leavers : Value}
    {T_leavers e_leavers : Addr} {oT_leavers : Value} {dT_leavers dE_leavers : Option Addr} {nT_leavers nE_leavers : Nat} {sT_leavers sE_leavers : Array (Option Value)}
    {f_stuck : Addr} {od_stuck an_stuck : Option Addr} {sl_stuck : Array (Option Value)} {oc_stuck kV_stuck dc_stuck pm_stuck cd_stuck ct_stuck : Value}
    {f_hull : Addr} {od_hull an_hull : Option Addr} {sl_hull : Array (Option Value)} {oc_hull kV_hull dc_hull pm_hull cd_hull ct_hull : Value}
    {f_Rule_init : Addr} {od_Rule_init an_Rule_init : Option Addr} {sl_Rule_init : Array (Option Value)} {oc_Rule_init kV_Rule_init dc_Rule_init pm_Rule_init cd_Rule_init ct_Rule_init : Value}
    {T_Rule_init e_Rule_init : Addr} {oT_Rule_init : Value} {dT_Rule_init dE_Rule_init : Option Addr} {nT_Rule_init nE_Rule_init : Nat} {sT_Rule_init sE_Rule_init : Array (Option Value)}
    {f_Rule_eq : Addr} {od_Rule_eq an_Rule_eq : Option Addr} {sl_Rule_eq : Array (Option Value)} {oc_Rule_eq kV_Rule_eq dc_Rule_eq pm_Rule_eq cd_Rule_eq ct_Rule_eq : Value}
    {f_Rule_str : Addr} {od_Rule_str an_Rule_str : Option Addr} {sl_Rule_str : Array (Option Value)} {oc_Rule_str kV_Rule_str dc_Rule_str pm_Rule_str cd_Rule_str ct_Rule_str : Value}
    {f_read_rule : Addr} {od_read_rule an_read_rule : Option Addr} {sl_read_rule : Array (Option Value)} {oc_read_rule kV_read_rule dc_read_rule pm_read_rule cd_read_rule ct_read_rule : Value}
    {f_Room_init : Addr} {od_Room_init an_Room_init : Option Addr} {sl_Room_init : Array (Option Value)} {oc_Room_init kV_Room_init dc_Room_init pm_Room_init cd_Room_init ct_Room_init : Value}
    {T_Room_init e_Room_init : Addr} {oT_Room_init : Value} {dT_Room_init dE_Room_init : Option Addr} {nT_Room_init nE_Room_init : Nat} {sT_Room_init sE_Room_init : Array (Option Value)}
    {f_Room_read : Addr} {od_Room_read an_Room_read : Option Addr} {sl_Room_read : Array (Option Value)} {oc_Room_read kV_Room_read dc_Room_read pm_Room_read cd_Room_read ct_Room_read : Value}
    {p_Room_read : Addr} {pr_Room_read : List Value}
    {f_Room_without : Addr} {od_Room_without an_Room_without : Option Addr} {sl_Room_without : Array (Option Value)} {oc_Room_without kV_Room_without dc_Room_without pm_Room_without cd_Room_without ct_Room_without : Value}
    {f_Room_len : Addr} {od_Room_len an_Room_len : Option Addr} {sl_Room_len : Array (Option Value)} {oc_Room_len kV_Room_len dc_Room_len pm_Room_len cd_Room_len ct_Room_len : Value}
    {f_Room_getitem : Addr} {od_Room_getitem an_Room_getitem : Option Addr} {sl_Room_getitem : Array (Option Value)} {oc_Room_getitem kV_Room_getitem dc_Room_getitem pm_Room_getitem cd_Room_getitem ct_Room_getitem : Value}
    {f_Room_add : Addr} {od_Room_add an_Room_add : Option Addr} {sl_Room_add : Array (Option Value)} {oc_Room_add kV_Room_add dc_Room_add pm_Room_add cd_Room_add ct_Room_add : Value}
    {f_Room_eq : Addr} {od_Room_eq an_Room_eq : Option Addr} {sl_Room_eq : Array (Option Value)} {oc_Room_eq kV_Room_eq dc_Room_eq pm_Room_eq cd_Room_eq ct_Room_eq : Value}
    {f_Room_str : Addr} {od_Room_str an_Room_str : Option Addr} {sl_Room_str : Array (Option Value)} {oc_Room_str kV_Room_str dc_Room_str pm_Room_str cd_Room_str ct_Room_str : Value}
    {f_least_meeting : Addr} {od_least_meeting an_least_meeting : Option Addr} {sl_least_meeting : Array (Option Value)} {oc_least_meeting kV_least_meeting dc_least_meeting pm_least_meeting cd_least_meeting ct_least_meeting : Value}
    {f_ones_of : Addr} {od_ones_of an_ones_of : Option Addr} {sl_ones_of : Array (Option Value)} {oc_ones_of kV_ones_of dc_ones_of pm_ones_of cd_ones_of ct_ones_of : Value}
    {f_has_one_of : Addr} {od_has_one_of an_has_one_of : Option Addr} {sl_has_one_of : Array (Option Value)} {oc_has_one_of kV_has_one_of dc_has_one_of pm_has_one_of cd_has_one_of ct_has_one_of : Value}
    {f_tree : Addr} {od_tree an_tree : Option Addr} {sl_tree : Array (Option Value)} {oc_tree kV_tree dc_tree pm_tree cd_tree ct_tree : Value}
    {f_taken_down : Addr} {od_taken_down an_taken_down : Option Addr} {sl_taken_down : Array (Option Value)} {oc_taken_down kV_taken_down dc_taken_down pm_taken_down cd_taken_down ct_taken_down : Value}
    {f_check_edges : Addr} {od_check_edges an_check_edges : Option Addr} {sl_check_edges : Array (Option Value)} {oc_check_edges kV_check_edges dc_check_edges pm_check_edges cd_check_edges ct_check_edges : Value}
    {f_is_tuple_of : Addr} {od_is_tuple_of an_is_tuple_of : Option Addr} {sl_is_tuple_of : Array (Option Value)} {oc_is_tuple_of kV_is_tuple_of dc_is_tuple_of pm_is_tuple_of cd_is_tuple_of ct_is_tuple_of : Value}
    {f_ring_at : Addr} {od_ring_at an_ring_at : Option Addr} {sl_ring_at : Array (Option Value)} {oc_ring_at kV_ring_at dc_ring_at pm_ring_at cd_ring_at ct_ring_at : Value}
    {f_are_joined : Addr} {od_are_joined an_are_joined : Option Addr} {sl_are_joined : Array (Option Value)} {oc_are_joined kV_are_joined dc_are_joined pm_are_joined cd_are_joined ct_are_joined : Value}
    {f_unjoined_beside : Addr} {od_unjoined_beside an_unjoined_beside : Option Addr} {sl_unjoined_beside : Array (Option Value)} {oc_unjoined_beside kV_unjoined_beside dc_unjoined_beside pm_unjoined_beside cd_unjoined_beside ct_unjoined_beside : Value}
    {f_room_kept_by : Addr} {od_room_kept_by an_room_kept_by : Option Addr} {sl_room_kept_by : Array (Option Value)} {oc_room_kept_by kV_room_kept_by dc_room_kept_by pm_room_kept_by cd_room_kept_by ct_room_kept_by : Value}
    {f_lw_forest : Addr} {od_lw_forest an_lw_forest : Option Addr} {sl_lw_forest : Array (Option Value)} {oc_lw_forest kV_lw_forest dc_lw_forest pm_lw_forest cd_lw_forest ct_lw_forest : Value}
    {f_lw_corners : Addr} {od_lw_corners an_lw_corners : Option Addr} {sl_lw_corners : Array (Option Value)} {oc_lw_corners kV_lw_corners dc_lw_corners pm_lw_corners cd_lw_corners ct_lw_corners : Value}
    {f_lw_beside : Addr} {od_lw_beside an_lw_beside : Option Addr} {sl_lw_beside : Array (Option Value)} {oc_lw_beside kV_lw_beside dc_lw_beside pm_lw_beside cd_lw_beside ct_lw_beside : Value}
    {f_lw_lots_by : Addr} {od_lw_lots_by an_lw_lots_by : Option Addr} {sl_lw_lots_by : Array (Option Value)} {oc_lw_lots_by kV_lw_lots_by dc_lw_lots_by pm_lw_lots_by cd_lw_lots_by ct_lw_lots_by : Value}
    {f_lw_is_room : Addr} {od_lw_is_room an_lw_is_room : Option Addr} {sl_lw_is_room : Array (Option Value)} {oc_lw_is_room kV_lw_is_room dc_lw_is_room pm_lw_is_room cd_lw_is_room ct_lw_is_room : Value}
    {f_lw_deal : Addr} {od_lw_deal an_lw_deal : Option Addr} {sl_lw_deal : Array (Option Value)} {oc_lw_deal kV_lw_deal dc_lw_deal pm_lw_deal cd_lw_deal ct_lw_deal : Value}
    {f_lw_draw : Addr} {od_lw_draw an_lw_draw : Option Addr} {sl_lw_draw : Array (Option Value)} {oc_lw_draw kV_lw_draw dc_lw_draw pm_lw_draw cd_lw_draw ct_lw_draw : Value}
    {f_lw_pick : Addr} {od_lw_pick an_lw_pick : Option Addr} {sl_lw_pick : Array (Option Value)} {oc_lw_pick kV_lw_pick dc_lw_pick pm_lw_pick cd_lw_pick ct_lw_pick : Value}
    {f_lw_mixed : Addr} {od_lw_mixed an_lw_mixed : Option Addr} {sl_lw_mixed : Array (Option Value)} {oc_lw_mixed kV_lw_mixed dc_lw_mixed pm_lw_mixed cd_lw_mixed ct_lw_mixed : Value}
    {f_lw_names : Addr} {od_lw_names an_lw_names : Option Addr} {sl_lw_names : Array (Option Value)} {oc_lw_names kV_lw_names dc_lw_names pm_lw_names cd_lw_names ct_lw_names : Value}
    {f_lw_with : Addr} {od_lw_with an_lw_with : Option Addr} {sl_lw_with : Array (Option Value)} {oc_lw_with kV_lw_with dc_lw_with pm_lw_with cd_lw_with ct_lw_with : Value}
    {f_lw_main : Addr} {od_lw_main an_lw_main : Option Addr} {sl_lw_main : Array (Option Value)} {oc_lw_main kV_lw_main dc_lw_main pm_lw_main cd_lw_main ct_lw_main : Value}
    {tk_LETTERS : Tok}
    {cA_lw_main PA_lw_main : Addr}
    (aC_Rule : PySem.W.nsIn K mainGlobals "Rule" = some (some (.ref C_Rule)))
    (pg_Rule : PySem.W.plainGet K C_Rule Str.empty = true)
    (hd_Rule : PySem.W.hasDictIn K C_Rule = true)
    (po_Rule : PySem.W.plainOver K C_Rule = true)
    (sa_Rule : PySem.W.findIn K (.ref C_Rule) "__setattr__" = some (some (.builtin "object.__setattr__")))
    (mk_Rule : PySem.W.makesIn K C_Rule = true)
    (kc_Rule : PySem.W.keepIn K (.ref C_Rule) = true)
    (no_Rule_name : PySem.W.findIn K (.ref C_Rule) "name" = some none)
    (no_Rule_gone : PySem.W.findIn K (.ref C_Rule) "gone" = some none)
    (ha_Rule : PySem.W.findIn K (.ref C_Rule) "__class__" = some (some (.builtin "object.__class__")))
    (hn_Rule : PySem.W.specialIn K (.builtin "object.__class__") "__get__" = some (some (.builtin "getset_descriptor.__get__")))
    (htk_Rule : PySem.W.takesIn K (.builtin "object.__class__") = some true)
    (hm_Rule : PySem.W.mroIn K C_Rule (.type "object") = some true)
    (nd_Rule : PySem.W.findIn K (.ref C_Rule) "__ne__" = some (some (.builtin "object.__ne__")))
    (sx_Rule : PySem.W.subIn K (.type "str") (.ref C_Rule) = some false)
    (aC_Room : PySem.W.nsIn K mainGlobals "Room" = some (some (.ref C_Room)))
    (pg_Room : PySem.W.plainGet K C_Room Str.empty = true)
    (hd_Room : PySem.W.hasDictIn K C_Room = true)
    (po_Room : PySem.W.plainOver K C_Room = true)
    (sa_Room : PySem.W.findIn K (.ref C_Room) "__setattr__" = some (some (.builtin "object.__setattr__")))
    (mk_Room : PySem.W.makesIn K C_Room = true)
    (kc_Room : PySem.W.keepIn K (.ref C_Room) = true)
    (no_Room_rules : PySem.W.findIn K (.ref C_Room) "rules" = some none)
    (no_Room_names : PySem.W.findIn K (.ref C_Room) "names" = some none)
    (ha_Room : PySem.W.findIn K (.ref C_Room) "__class__" = some (some (.builtin "object.__class__")))
    (hn_Room : PySem.W.specialIn K (.builtin "object.__class__") "__get__" = some (some (.builtin "getset_descriptor.__get__")))
    (htk_Room : PySem.W.takesIn K (.builtin "object.__class__") = some true)
    (hm_Room : PySem.W.mroIn K C_Room (.type "object") = some true)
    (aC_InvalidDrawing : PySem.W.nsIn K mainGlobals "InvalidDrawing" = some (some (.ref C_InvalidDrawing)))
    (xL_InvalidDrawing : K.lookup C_InvalidDrawing = some (excClassObj nm_InvalidDrawing q_InvalidDrawing C_InvalidDrawing N_InvalidDrawing bs_InvalidDrawing [.ref R0_InvalidDrawing, .type "ValueError", .type "Exception", .type "BaseException", .type "object"] true sn_InvalidDrawing sub_InvalidDrawing ab_InvalidDrawing col_InvalidDrawing dd_InvalidDrawing m0_InvalidDrawing m1_InvalidDrawing m2_InvalidDrawing m3_InvalidDrawing m5_InvalidDrawing "ValueError.__new__"))
    (aC_InvalidRule : PySem.W.nsIn K mainGlobals "InvalidRule" = some (some (.ref C_InvalidRule)))
    (xL_InvalidRule : K.lookup C_InvalidRule = some (excClassObj nm_InvalidRule q_InvalidRule C_InvalidRule N_InvalidRule bs_InvalidRule [.ref R0_InvalidRule, .type "ValueError", .type "Exception", .type "BaseException", .type "object"] true sn_InvalidRule sub_InvalidRule ab_InvalidRule col_InvalidRule dd_InvalidRule m0_InvalidRule m1_InvalidRule m2_InvalidRule m3_InvalidRule m5_InvalidRule "ValueError.__new__"))
    (sb_NoneType_Room : PySem.W.subIn K (.type "NoneType") (.ref C_Room) = some false)
    (sb_bool_Room : PySem.W.subIn K (.type "bool") (.ref C_Room) = some false)
    (sb_int_Room : PySem.W.subIn K (.type "int") (.ref C_Room) = some false)
    (sb_str_Room : PySem.W.subIn K (.type "str") (.ref C_Room) = some false)
    (sb_list_Room : PySem.W.subIn K (.type "list") (.ref C_Room) = some false)
    (sb_tuple_Room : PySem.W.subIn K (.type "tuple") (.ref C_Room) = some false)
    (so_Rule_Room : PySem.W.subIn K (.ref C_Rule) (.ref C_Room) = some false)
    (so_Room_Room : PySem.W.subIn K (.ref C_Room) (.ref C_Room) = some true)
    (sb_NoneType_Rule : PySem.W.subIn K (.type "NoneType") (.ref C_Rule) = some false)
    (sb_bool_Rule : PySem.W.subIn K (.type "bool") (.ref C_Rule) = some false)
    (sb_int_Rule : PySem.W.subIn K (.type "int") (.ref C_Rule) = some false)
    (sb_str_Rule : PySem.W.subIn K (.type "str") (.ref C_Rule) = some false)
    (sb_list_Rule : PySem.W.subIn K (.type "list") (.ref C_Rule) = some false)
    (sb_tuple_Rule : PySem.W.subIn K (.type "tuple") (.ref C_Rule) = some false)
    (so_Rule_Rule : PySem.W.subIn K (.ref C_Rule) (.ref C_Rule) = some true)
    (so_Room_Rule : PySem.W.subIn K (.ref C_Room) (.ref C_Rule) = some false)
    (iL_Room : PySem.W.isClsIn K C_Room = true)
    (tL_Room : PySem.W.typeIn K (.ref C_Room) = some (.type "type"))
    (iL_Rule : PySem.W.isClsIn K C_Rule = true)
    (tL_Rule : PySem.W.typeIn K (.ref C_Rule) = some (.type "type"))
    (a_is_int : PySem.W.nsIn K mainGlobals "is_int" = some (some (.ref f_is_int)))
    (l_is_int : K.lookup f_is_int = some ⟨oc_is_int, od_is_int, .func (PySem.W.fnOf "is_int" "is_int" (defArgs s_is_int) (defBody s_is_int) (defScope s_is_int) .none kV_is_int dc_is_int pm_is_int an_is_int cd_is_int ct_is_int), sl_is_int⟩)
    (c_is_int : PySem.W.codeIn K cd_is_int "is_int" = true)
    (k_is_int : PySem.W.keepIn K (.ref f_is_int) = true)
    (a_is_index : PySem.W.nsIn K mainGlobals "is_index" = some (some (.ref f_is_index)))
    (l_is_index : K.lookup f_is_index = some ⟨oc_is_index, od_is_index, .func (PySem.W.fnOf "is_index" "is_index" (defArgs s_is_index) (defBody s_is_index) (defScope s_is_index) .none kV_is_index dc_is_index pm_is_index an_is_index cd_is_index ct_is_index), sl_is_index⟩)
    (c_is_index : PySem.W.codeIn K cd_is_index "is_index" = true)
    (k_is_index : PySem.W.keepIn K (.ref f_is_index) = true)
    (a_is_name : PySem.W.nsIn K mainGlobals "is_name" = some (some (.ref f_is_name)))
    (l_is_name : K.lookup f_is_name = some ⟨oc_is_name, od_is_name, .func (PySem.W.fnOf "is_name" "is_name" (defArgs s_is_name) (defBody s_is_name) (defScope s_is_name) .none kV_is_name dc_is_name pm_is_name an_is_name cd_is_name ct_is_name), sl_is_name⟩)
    (c_is_name : PySem.W.codeIn K cd_is_name "is_name" = true)
    (k_is_name : PySem.W.keepIn K (.ref f_is_name) = true)
    (a_is_sequence : PySem.W.nsIn K mainGlobals "is_sequence" = some (some (.ref f_is_sequence)))
    (l_is_sequence : K.lookup f_is_sequence = some ⟨oc_is_sequence, od_is_sequence, .func (PySem.W.fnOf "is_sequence" "is_sequence" (defArgs s_is_sequence) (defBody s_is_sequence) (defScope s_is_sequence) .none kV_is_sequence dc_is_sequence pm_is_sequence an_is_sequence cd_is_sequence ct_is_sequence), sl_is_sequence⟩)
    (c_is_sequence : PySem.W.codeIn K cd_is_sequence "is_sequence" = true)
    (k_is_sequence : PySem.W.keepIn K (.ref f_is_sequence) = true)
    (a_are_names : PySem.W.nsIn K mainGlobals "are_names" = some (some (.ref f_are_names)))
    (l_are_names : K.lookup f_are_names = some ⟨oc_are_names, od_are_names, .func (PySem.W.fnOf "are_names" "are_names" (defArgs s_are_names) (defBody s_are_names) (defScope s_are_names) .none kV_are_names dc_are_names pm_are_names an_are_names cd_are_names ct_are_names), sl_are_names⟩)
    (c_are_names : PySem.W.codeIn K cd_are_names "are_names" = true)
    (k_are_names : PySem.W.keepIn K (.ref f_are_names) = true)
    (a_are_unlike : PySem.W.nsIn K mainGlobals "are_unlike" = some (some (.ref f_are_unlike)))
    (l_are_unlike : K.lookup f_are_unlike = some ⟨oc_are_unlike, od_are_unlike, .func (PySem.W.fnOf "are_unlike" "are_unlike" (defArgs s_are_unlike) (defBody s_are_unlike) (defScope s_are_unlike) .none kV_are_unlike dc_are_unlike pm_are_unlike an_are_unlike cd_are_unlike ct_are_unlike), sl_are_unlike⟩)
    (c_are_unlike : PySem.W.codeIn K cd_are_unlike "are_unlike" = true)
    (k_are_unlike : PySem.W.keepIn K (.ref f_are_unlike) = true)
    (a_lot_of : PySem.W.nsIn K mainGlobals "lot_of" = some (some (.ref f_lot_of)))
    (l_lot_of : K.lookup f_lot_of = some ⟨oc_lot_of, od_lot_of, .func (PySem.W.fnOf "lot_of" "lot_of" (defArgs s_lot_of) (defBody s_lot_of) (defScope s_lot_of) .none kV_lot_of dc_lot_of pm_lot_of an_lot_of cd_lot_of ct_lot_of), sl_lot_of⟩)
    (c_lot_of : PySem.W.codeIn K cd_lot_of "lot_of" = true)
    (k_lot_of : PySem.W.keepIn K (.ref f_lot_of) = true)
    (a_bits_of : PySem.W.nsIn K mainGlobals "bits_of" = some (some (.ref f_bits_of)))
    (l_bits_of : K.lookup f_bits_of = some ⟨oc_bits_of, od_bits_of, .func (PySem.W.fnOf "bits_of" "bits_of" (defArgs s_bits_of) (defBody s_bits_of) (defScope s_bits_of) .none kV_bits_of dc_bits_of pm_bits_of an_bits_of cd_bits_of ct_bits_of), sl_bits_of⟩)
    (c_bits_of : PySem.W.codeIn K cd_bits_of "bits_of" = true)
    (k_bits_of : PySem.W.keepIn K (.ref f_bits_of) = true)
    (a_names_of : PySem.W.nsIn K mainGlobals "names_of" = some (some (.ref f_names_of)))
    (l_names_of : K.lookup f_names_of = some ⟨oc_names_of, od_names_of, .func (PySem.W.fnOf "names_of" "names_of" (defArgs s_names_of) (defBody s_names_of) (defScope s_names_of) .none kV_names_of dc_names_of pm_names_of an_names_of cd_names_of ct_names_of), sl_names_of⟩)
    (c_names_of : PySem.W.codeIn K cd_names_of "names_of" = true)
    (k_names_of : PySem.W.keepIn K (.ref f_names_of) = true)
    (a_InvalidRule_init : PySem.W.findIn K (.ref C_InvalidRule) "__init__" = some (some (.ref f_InvalidRule_init)))
    (l_InvalidRule_init : K.lookup f_InvalidRule_init = some ⟨oc_InvalidRule_init, od_InvalidRule_init, .func (PySem.W.fnOf "__init__" "InvalidRule.__init__" (defArgs s_InvalidRule_init) (defBody s_InvalidRule_init) (defScope s_InvalidRule_init) .none kV_InvalidRule_init dc_InvalidRule_init pm_InvalidRule_init an_InvalidRule_init cd_InvalidRule_init ct_InvalidRule_init), sl_InvalidRule_init⟩)
    (c_InvalidRule_init : PySem.W.codeIn K cd_InvalidRule_init "InvalidRule.__init__" = true)
    (k_InvalidRule_init : PySem.W.keepIn K (.ref f_InvalidRule_init) = true)
    (a_InvalidDrawing_init : PySem.W.findIn K (.ref C_InvalidDrawing) "__init__" = some (some (.ref f_InvalidDrawing_init)))
    (l_InvalidDrawing_init : K.lookup f_InvalidDrawing_init = some ⟨oc_InvalidDrawing_init, od_InvalidDrawing_init, .func (PySem.W.fnOf "__init__" "InvalidDrawing.__init__" (defArgs s_InvalidDrawing_init) (defBody s_InvalidDrawing_init) (defScope s_InvalidDrawing_init) .none kV_InvalidDrawing_init dc_InvalidDrawing_init pm_InvalidDrawing_init an_InvalidDrawing_init cd_InvalidDrawing_init ct_InvalidDrawing_init), sl_InvalidDrawing_init⟩)
    (c_InvalidDrawing_init : PySem.W.codeIn K cd_InvalidDrawing_init "InvalidDrawing.__init__" = true)
    (k_InvalidDrawing_init : PySem.W.keepIn K (.ref f_InvalidDrawing_init) = true)
    (a_may : PySem.W.nsIn K mainGlobals "may" = some (some (.ref f_may)))
    (l_may : K.lookup f_may = some ⟨oc_may, od_may, .func (PySem.W.fnOf "may" "may" (defArgs s_may) (defBody s_may) (defScope s_may) .none kV_may dc_may pm_may an_may cd_may ct_may), sl_may⟩)
    (c_may : PySem.W.codeIn K cd_may "may" = true)
    (k_may : PySem.W.keepIn K (.ref f_may) = true)
    (a_is_fulfilled : PySem.W.nsIn K mainGlobals "is_fulfilled" = some (some (.ref f_is_fulfilled)))
    (l_is_fulfilled : K.lookup f_is_fulfilled = some ⟨oc_is_fulfilled, od_is_fulfilled, .func (PySem.W.fnOf "is_fulfilled" "is_fulfilled" (defArgs s_is_fulfilled) (defBody s_is_fulfilled) (defScope s_is_fulfilled) .none kV_is_fulfilled dc_is_fulfilled pm_is_fulfilled an_is_fulfilled cd_is_fulfilled ct_is_fulfilled), sl_is_fulfilled⟩)
    (c_is_fulfilled : PySem.W.codeIn K cd_is_fulfilled "is_fulfilled" = true)
    (k_is_fulfilled : PySem.W.keepIn K (.ref f_is_fulfilled) = true)
    (a_lots : PySem.W.nsIn K mainGlobals "lots" = some (some (.ref f_lots)))
    (l_lots : K.lookup f_lots = some ⟨oc_lots, od_lots, .func (PySem.W.fnOf "lots" "lots" (defArgs s_lots) (defBody s_lots) (defScope s_lots) .none kV_lots dc_lots pm_lots an_lots cd_lots ct_lots), sl_lots⟩)
    (c_lots : PySem.W.codeIn K cd_lots "lots" = true)
    (k_lots : PySem.W.keepIn K (.ref f_lots) = true)
    (a_lots_after : PySem.W.nsIn K mainGlobals "lots_after" = some (some (.ref f_lots_after)))
    (l_lots_after : K.lookup f_lots_after = some ⟨oc_lots_after, od_lots_after, .func (PySem.W.fnOf "lots_after" "lots_after" (defArgs s_lots_after) (defBody s_lots_after) (defScope s_lots_after) .none kV_lots_after dc_lots_after pm_lots_after an_lots_after cd_lots_after ct_lots_after), sl_lots_after⟩)
    (c_lots_after : PySem.W.codeIn K cd_lots_after "lots_after" = true)
    (k_lots_after : PySem.W.keepIn K (.ref f_lots_after) = true)
    (a_others : PySem.W.nsIn K mainGlobals "others" = some (some (.ref f_others)))
    (l_others : K.lookup f_others = some ⟨oc_others, od_others, .func (PySem.W.fnOf "others" "others" (defArgs s_others) (defBody s_others) (defScope s_others) .none kV_others dc_others pm_others an_others cd_others ct_others), sl_others⟩)
    (c_others : PySem.W.codeIn K cd_others "others" = true)
    (k_others : PySem.W.keepIn K (.ref f_others) = true)
    (a_leavers : PySem.W.nsIn K mainGlobals "leavers" = some (some (.ref f_leavers)))
    (l_leavers : K.lookup f_leavers = some ⟨oc_leavers, od_leavers, .func (PySem.W.fnOf "leavers" "leavers" (defArgs s_leavers) (defBody s_leavers) (defScope s_leavers) (.ref T_leavers) kV_leavers dc_leavers pm_leavers an_leavers cd_leavers ct_leavers), sl_leavers⟩)
    (lT_leavers : K.lookup T_leavers = some ⟨oT_leavers, dT_leavers, .seq #[.ref e_leavers] nT_leavers, sT_leavers⟩)
    (lE_leavers : K.lookup e_leavers = some ⟨.type "tuple", dE_leavers, .seq #[] nE_leavers, sE_leavers⟩)
    (c_leavers : PySem.W.codeIn K cd_leavers "leavers" = true)
    (k_leavers : PySem.W.keepIn K (.ref f_leavers) = true)
    (a_stuck : PySem.W.nsIn K mainGlobals "stuck" = some (some (.ref f_stuck)))
    (l_stuck : K.lookup f_stuck = some ⟨oc_stuck, od_stuck, .func (PySem.W.fnOf "stuck" "stuck" (defArgs s_stuck) (defBody s_stuck) (defScope s_stuck) .none kV_stuck dc_stuck pm_stuck an_stuck cd_stuck ct_stuck), sl_stuck⟩)
    (c_stuck : PySem.W.codeIn K cd_stuck "stuck" = true)
    (k_stuck : PySem.W.keepIn K (.ref f_stuck) = true)
    (a_hull : PySem.W.nsIn K mainGlobals "hull" = some (some (.ref f_hull)))
    (l_hull : K.lookup f_hull = some ⟨oc_hull, od_hull, .func (PySem.W.fnOf "hull" "hull" (defArgs s_hull) (defBody s_hull) (defScope s_hull) .none kV_hull dc_hull pm_hull an_hull cd_hull ct_hull), sl_hull⟩)
    (c_hull : PySem.W.codeIn K cd_hull "hull" = true)
    (k_hull : PySem.W.keepIn K (.ref f_hull) = true)
    (a_Rule_init : PySem.W.findIn K (.ref C_Rule) "__init__" = some (some (.ref f_Rule_init)))
    (i_Rule_init : PySem.W.isFn K (.ref f_Rule_init) = true)
    (l_Rule_init : K.lookup f_Rule_init = some ⟨oc_Rule_init, od_Rule_init, .func (PySem.W.fnOf "__init__" "Rule.__init__" (defArgs s_Rule_init) (defBody s_Rule_init) (defScope s_Rule_init) (.ref T_Rule_init) kV_Rule_init dc_Rule_init pm_Rule_init an_Rule_init cd_Rule_init ct_Rule_init), sl_Rule_init⟩)
    (lT_Rule_init : K.lookup T_Rule_init = some ⟨oT_Rule_init, dT_Rule_init, .seq #[.ref e_Rule_init] nT_Rule_init, sT_Rule_init⟩)
    (lE_Rule_init : K.lookup e_Rule_init = some ⟨.type "tuple", dE_Rule_init, .seq #[] nE_Rule_init, sE_Rule_init⟩)
    (c_Rule_init : PySem.W.codeIn K cd_Rule_init "Rule.__init__" = true)
    (k_Rule_init : PySem.W.keepIn K (.ref f_Rule_init) = true)
    (a_Rule_eq : PySem.W.findIn K (.ref C_Rule) "__eq__" = some (some (.ref f_Rule_eq)))
    (i_Rule_eq : PySem.W.isFn K (.ref f_Rule_eq) = true)
    (l_Rule_eq : K.lookup f_Rule_eq = some ⟨oc_Rule_eq, od_Rule_eq, .func (PySem.W.fnOf "__eq__" "Rule.__eq__" (defArgs s_Rule_eq) (defBody s_Rule_eq) (defScope s_Rule_eq) .none kV_Rule_eq dc_Rule_eq pm_Rule_eq an_Rule_eq cd_Rule_eq ct_Rule_eq), sl_Rule_eq⟩)
    (c_Rule_eq : PySem.W.codeIn K cd_Rule_eq "Rule.__eq__" = true)
    (k_Rule_eq : PySem.W.keepIn K (.ref f_Rule_eq) = true)
    (a_Rule_str : PySem.W.findIn K (.ref C_Rule) "__str__" = some (some (.ref f_Rule_str)))
    (i_Rule_str : PySem.W.isFn K (.ref f_Rule_str) = true)
    (l_Rule_str : K.lookup f_Rule_str = some ⟨oc_Rule_str, od_Rule_str, .func (PySem.W.fnOf "__str__" "Rule.__str__" (defArgs s_Rule_str) (defBody s_Rule_str) (defScope s_Rule_str) .none kV_Rule_str dc_Rule_str pm_Rule_str an_Rule_str cd_Rule_str ct_Rule_str), sl_Rule_str⟩)
    (c_Rule_str : PySem.W.codeIn K cd_Rule_str "Rule.__str__" = true)
    (k_Rule_str : PySem.W.keepIn K (.ref f_Rule_str) = true)
    (a_read_rule : PySem.W.nsIn K mainGlobals "read_rule" = some (some (.ref f_read_rule)))
    (l_read_rule : K.lookup f_read_rule = some ⟨oc_read_rule, od_read_rule, .func (PySem.W.fnOf "read_rule" "read_rule" (defArgs s_read_rule) (defBody s_read_rule) (defScope s_read_rule) .none kV_read_rule dc_read_rule pm_read_rule an_read_rule cd_read_rule ct_read_rule), sl_read_rule⟩)
    (c_read_rule : PySem.W.codeIn K cd_read_rule "read_rule" = true)
    (k_read_rule : PySem.W.keepIn K (.ref f_read_rule) = true)
    (a_Room_init : PySem.W.findIn K (.ref C_Room) "__init__" = some (some (.ref f_Room_init)))
    (i_Room_init : PySem.W.isFn K (.ref f_Room_init) = true)
    (l_Room_init : K.lookup f_Room_init = some ⟨oc_Room_init, od_Room_init, .func (PySem.W.fnOf "__init__" "Room.__init__" (defArgs s_Room_init) (defBody s_Room_init) (defScope s_Room_init) (.ref T_Room_init) kV_Room_init dc_Room_init pm_Room_init an_Room_init cd_Room_init ct_Room_init), sl_Room_init⟩)
    (lT_Room_init : K.lookup T_Room_init = some ⟨oT_Room_init, dT_Room_init, .seq #[.ref e_Room_init] nT_Room_init, sT_Room_init⟩)
    (lE_Room_init : K.lookup e_Room_init = some ⟨.type "tuple", dE_Room_init, .seq #[] nE_Room_init, sE_Room_init⟩)
    (c_Room_init : PySem.W.codeIn K cd_Room_init "Room.__init__" = true)
    (k_Room_init : PySem.W.keepIn K (.ref f_Room_init) = true)
    (cmf_Room_read : PySem.W.findCls K (.ref C_Room) (.type "type") "read" = some (.get (.builtin "classmethod.__get__") (.ref p_Room_read) .none (.ref C_Room)))
    (cmr_Room_read : PySem.W.recIn K p_Room_read "classmethod" = some (.ref f_Room_read :: pr_Room_read))
    (cmi_Room_read : PySem.W.fnIn K f_Room_read = true)
    (crd_Room : PySem.W.readsIn K C_Room (.type "type") = true)
    (cga_Room : PySem.W.specialIn K (.ref C_Room) "__getattribute__" = some (some (.builtin "type.__getattribute__")))
    (l_Room_read : K.lookup f_Room_read = some ⟨oc_Room_read, od_Room_read, .func (PySem.W.fnOf "read" "Room.read" (defArgs s_Room_read) (defBody s_Room_read) (defScope s_Room_read) .none kV_Room_read dc_Room_read pm_Room_read an_Room_read cd_Room_read ct_Room_read), sl_Room_read⟩)
    (c_Room_read : PySem.W.codeIn K cd_Room_read "Room.read" = true)
    (k_Room_read : PySem.W.keepIn K (.ref f_Room_read) = true)
    (a_Room_without : PySem.W.findIn K (.ref C_Room) "without" = some (some (.ref f_Room_without)))
    (i_Room_without : PySem.W.isFn K (.ref f_Room_without) = true)
    (l_Room_without : K.lookup f_Room_without = some ⟨oc_Room_without, od_Room_without, .func (PySem.W.fnOf "without" "Room.without" (defArgs s_Room_without) (defBody s_Room_without) (defScope s_Room_without) .none kV_Room_without dc_Room_without pm_Room_without an_Room_without cd_Room_without ct_Room_without), sl_Room_without⟩)
    (c_Room_without : PySem.W.codeIn K cd_Room_without "Room.without" = true)
    (k_Room_without : PySem.W.keepIn K (.ref f_Room_without) = true)
    (a_Room_len : PySem.W.findIn K (.ref C_Room) "__len__" = some (some (.ref f_Room_len)))
    (i_Room_len : PySem.W.isFn K (.ref f_Room_len) = true)
    (l_Room_len : K.lookup f_Room_len = some ⟨oc_Room_len, od_Room_len, .func (PySem.W.fnOf "__len__" "Room.__len__" (defArgs s_Room_len) (defBody s_Room_len) (defScope s_Room_len) .none kV_Room_len dc_Room_len pm_Room_len an_Room_len cd_Room_len ct_Room_len), sl_Room_len⟩)
    (c_Room_len : PySem.W.codeIn K cd_Room_len "Room.__len__" = true)
    (k_Room_len : PySem.W.keepIn K (.ref f_Room_len) = true)
    (a_Room_getitem : PySem.W.findIn K (.ref C_Room) "__getitem__" = some (some (.ref f_Room_getitem)))
    (i_Room_getitem : PySem.W.isFn K (.ref f_Room_getitem) = true)
    (l_Room_getitem : K.lookup f_Room_getitem = some ⟨oc_Room_getitem, od_Room_getitem, .func (PySem.W.fnOf "__getitem__" "Room.__getitem__" (defArgs s_Room_getitem) (defBody s_Room_getitem) (defScope s_Room_getitem) .none kV_Room_getitem dc_Room_getitem pm_Room_getitem an_Room_getitem cd_Room_getitem ct_Room_getitem), sl_Room_getitem⟩)
    (c_Room_getitem : PySem.W.codeIn K cd_Room_getitem "Room.__getitem__" = true)
    (k_Room_getitem : PySem.W.keepIn K (.ref f_Room_getitem) = true)
    (a_Room_add : PySem.W.findIn K (.ref C_Room) "__add__" = some (some (.ref f_Room_add)))
    (i_Room_add : PySem.W.isFn K (.ref f_Room_add) = true)
    (l_Room_add : K.lookup f_Room_add = some ⟨oc_Room_add, od_Room_add, .func (PySem.W.fnOf "__add__" "Room.__add__" (defArgs s_Room_add) (defBody s_Room_add) (defScope s_Room_add) .none kV_Room_add dc_Room_add pm_Room_add an_Room_add cd_Room_add ct_Room_add), sl_Room_add⟩)
    (c_Room_add : PySem.W.codeIn K cd_Room_add "Room.__add__" = true)
    (k_Room_add : PySem.W.keepIn K (.ref f_Room_add) = true)
    (a_Room_eq : PySem.W.findIn K (.ref C_Room) "__eq__" = some (some (.ref f_Room_eq)))
    (i_Room_eq : PySem.W.isFn K (.ref f_Room_eq) = true)
    (l_Room_eq : K.lookup f_Room_eq = some ⟨oc_Room_eq, od_Room_eq, .func (PySem.W.fnOf "__eq__" "Room.__eq__" (defArgs s_Room_eq) (defBody s_Room_eq) (defScope s_Room_eq) .none kV_Room_eq dc_Room_eq pm_Room_eq an_Room_eq cd_Room_eq ct_Room_eq), sl_Room_eq⟩)
    (c_Room_eq : PySem.W.codeIn K cd_Room_eq "Room.__eq__" = true)
    (k_Room_eq : PySem.W.keepIn K (.ref f_Room_eq) = true)
    (a_Room_str : PySem.W.findIn K (.ref C_Room) "__str__" = some (some (.ref f_Room_str)))
    (i_Room_str : PySem.W.isFn K (.ref f_Room_str) = true)
    (l_Room_str : K.lookup f_Room_str = some ⟨oc_Room_str, od_Room_str, .func (PySem.W.fnOf "__str__" "Room.__str__" (defArgs s_Room_str) (defBody s_Room_str) (defScope s_Room_str) .none kV_Room_str dc_Room_str pm_Room_str an_Room_str cd_Room_str ct_Room_str), sl_Room_str⟩)
    (c_Room_str : PySem.W.codeIn K cd_Room_str "Room.__str__" = true)
    (k_Room_str : PySem.W.keepIn K (.ref f_Room_str) = true)
    (a_least_meeting : PySem.W.nsIn K mainGlobals "least_meeting" = some (some (.ref f_least_meeting)))
    (l_least_meeting : K.lookup f_least_meeting = some ⟨oc_least_meeting, od_least_meeting, .func (PySem.W.fnOf "least_meeting" "least_meeting" (defArgs s_least_meeting) (defBody s_least_meeting) (defScope s_least_meeting) .none kV_least_meeting dc_least_meeting pm_least_meeting an_least_meeting cd_least_meeting ct_least_meeting), sl_least_meeting⟩)
    (c_least_meeting : PySem.W.codeIn K cd_least_meeting "least_meeting" = true)
    (k_least_meeting : PySem.W.keepIn K (.ref f_least_meeting) = true)
    (a_ones_of : PySem.W.nsIn K mainGlobals "ones_of" = some (some (.ref f_ones_of)))
    (l_ones_of : K.lookup f_ones_of = some ⟨oc_ones_of, od_ones_of, .func (PySem.W.fnOf "ones_of" "ones_of" (defArgs s_ones_of) (defBody s_ones_of) (defScope s_ones_of) .none kV_ones_of dc_ones_of pm_ones_of an_ones_of cd_ones_of ct_ones_of), sl_ones_of⟩)
    (c_ones_of : PySem.W.codeIn K cd_ones_of "ones_of" = true)
    (k_ones_of : PySem.W.keepIn K (.ref f_ones_of) = true)
    (a_has_one_of : PySem.W.nsIn K mainGlobals "has_one_of" = some (some (.ref f_has_one_of)))
    (l_has_one_of : K.lookup f_has_one_of = some ⟨oc_has_one_of, od_has_one_of, .func (PySem.W.fnOf "has_one_of" "has_one_of" (defArgs s_has_one_of) (defBody s_has_one_of) (defScope s_has_one_of) .none kV_has_one_of dc_has_one_of pm_has_one_of an_has_one_of cd_has_one_of ct_has_one_of), sl_has_one_of⟩)
    (c_has_one_of : PySem.W.codeIn K cd_has_one_of "has_one_of" = true)
    (k_has_one_of : PySem.W.keepIn K (.ref f_has_one_of) = true)
    (a_tree : PySem.W.nsIn K mainGlobals "tree" = some (some (.ref f_tree)))
    (l_tree : K.lookup f_tree = some ⟨oc_tree, od_tree, .func (PySem.W.fnOf "tree" "tree" (defArgs s_tree) (defBody s_tree) (defScope s_tree) .none kV_tree dc_tree pm_tree an_tree cd_tree ct_tree), sl_tree⟩)
    (c_tree : PySem.W.codeIn K cd_tree "tree" = true)
    (k_tree : PySem.W.keepIn K (.ref f_tree) = true)
    (a_taken_down : PySem.W.nsIn K mainGlobals "taken_down" = some (some (.ref f_taken_down)))
    (l_taken_down : K.lookup f_taken_down = some ⟨oc_taken_down, od_taken_down, .func (PySem.W.fnOf "taken_down" "taken_down" (defArgs s_taken_down) (defBody s_taken_down) (defScope s_taken_down) .none kV_taken_down dc_taken_down pm_taken_down an_taken_down cd_taken_down ct_taken_down), sl_taken_down⟩)
    (c_taken_down : PySem.W.codeIn K cd_taken_down "taken_down" = true)
    (k_taken_down : PySem.W.keepIn K (.ref f_taken_down) = true)
    (a_check_edges : PySem.W.nsIn K mainGlobals "check_edges" = some (some (.ref f_check_edges)))
    (l_check_edges : K.lookup f_check_edges = some ⟨oc_check_edges, od_check_edges, .func (PySem.W.fnOf "check_edges" "check_edges" (defArgs s_check_edges) (defBody s_check_edges) (defScope s_check_edges) .none kV_check_edges dc_check_edges pm_check_edges an_check_edges cd_check_edges ct_check_edges), sl_check_edges⟩)
    (c_check_edges : PySem.W.codeIn K cd_check_edges "check_edges" = true)
    (k_check_edges : PySem.W.keepIn K (.ref f_check_edges) = true)
    (a_is_tuple_of : PySem.W.nsIn K mainGlobals "is_tuple_of" = some (some (.ref f_is_tuple_of)))
    (l_is_tuple_of : K.lookup f_is_tuple_of = some ⟨oc_is_tuple_of, od_is_tuple_of, .func (PySem.W.fnOf "is_tuple_of" "is_tuple_of" (defArgs s_is_tuple_of) (defBody s_is_tuple_of) (defScope s_is_tuple_of) .none kV_is_tuple_of dc_is_tuple_of pm_is_tuple_of an_is_tuple_of cd_is_tuple_of ct_is_tuple_of), sl_is_tuple_of⟩)
    (c_is_tuple_of : PySem.W.codeIn K cd_is_tuple_of "is_tuple_of" = true)
    (k_is_tuple_of : PySem.W.keepIn K (.ref f_is_tuple_of) = true)
    (a_ring_at : PySem.W.nsIn K mainGlobals "ring_at" = some (some (.ref f_ring_at)))
    (l_ring_at : K.lookup f_ring_at = some ⟨oc_ring_at, od_ring_at, .func (PySem.W.fnOf "ring_at" "ring_at" (defArgs s_ring_at) (defBody s_ring_at) (defScope s_ring_at) .none kV_ring_at dc_ring_at pm_ring_at an_ring_at cd_ring_at ct_ring_at), sl_ring_at⟩)
    (c_ring_at : PySem.W.codeIn K cd_ring_at "ring_at" = true)
    (k_ring_at : PySem.W.keepIn K (.ref f_ring_at) = true)
    (a_are_joined : PySem.W.nsIn K mainGlobals "are_joined" = some (some (.ref f_are_joined)))
    (l_are_joined : K.lookup f_are_joined = some ⟨oc_are_joined, od_are_joined, .func (PySem.W.fnOf "are_joined" "are_joined" (defArgs s_are_joined) (defBody s_are_joined) (defScope s_are_joined) .none kV_are_joined dc_are_joined pm_are_joined an_are_joined cd_are_joined ct_are_joined), sl_are_joined⟩)
    (c_are_joined : PySem.W.codeIn K cd_are_joined "are_joined" = true)
    (k_are_joined : PySem.W.keepIn K (.ref f_are_joined) = true)
    (a_unjoined_beside : PySem.W.nsIn K mainGlobals "unjoined_beside" = some (some (.ref f_unjoined_beside)))
    (l_unjoined_beside : K.lookup f_unjoined_beside = some ⟨oc_unjoined_beside, od_unjoined_beside, .func (PySem.W.fnOf "unjoined_beside" "unjoined_beside" (defArgs s_unjoined_beside) (defBody s_unjoined_beside) (defScope s_unjoined_beside) .none kV_unjoined_beside dc_unjoined_beside pm_unjoined_beside an_unjoined_beside cd_unjoined_beside ct_unjoined_beside), sl_unjoined_beside⟩)
    (c_unjoined_beside : PySem.W.codeIn K cd_unjoined_beside "unjoined_beside" = true)
    (k_unjoined_beside : PySem.W.keepIn K (.ref f_unjoined_beside) = true)
    (a_room_kept_by : PySem.W.nsIn K mainGlobals "room_kept_by" = some (some (.ref f_room_kept_by)))
    (l_room_kept_by : K.lookup f_room_kept_by = some ⟨oc_room_kept_by, od_room_kept_by, .func (PySem.W.fnOf "room_kept_by" "room_kept_by" (defArgs s_room_kept_by) (defBody s_room_kept_by) (defScope s_room_kept_by) .none kV_room_kept_by dc_room_kept_by pm_room_kept_by an_room_kept_by cd_room_kept_by ct_room_kept_by), sl_room_kept_by⟩)
    (c_room_kept_by : PySem.W.codeIn K cd_room_kept_by "room_kept_by" = true)
    (k_room_kept_by : PySem.W.keepIn K (.ref f_room_kept_by) = true)
    (a_lw_forest : PySem.W.nsIn K mainGlobals "_law_forest" = some (some (.ref f_lw_forest)))
    (l_lw_forest : K.lookup f_lw_forest = some ⟨oc_lw_forest, od_lw_forest, .func (PySem.W.fnOf "_law_forest" "_law_forest" (defArgs s_lw_forest) (defBody s_lw_forest) (defScope s_lw_forest) .none kV_lw_forest dc_lw_forest pm_lw_forest an_lw_forest cd_lw_forest ct_lw_forest), sl_lw_forest⟩)
    (c_lw_forest : PySem.W.codeIn K cd_lw_forest "_law_forest" = true)
    (k_lw_forest : PySem.W.keepIn K (.ref f_lw_forest) = true)
    (a_lw_corners : PySem.W.nsIn K mainGlobals "_law_corners" = some (some (.ref f_lw_corners)))
    (l_lw_corners : K.lookup f_lw_corners = some ⟨oc_lw_corners, od_lw_corners, .func (PySem.W.fnOf "_law_corners" "_law_corners" (defArgs s_lw_corners) (defBody s_lw_corners) (defScope s_lw_corners) .none kV_lw_corners dc_lw_corners pm_lw_corners an_lw_corners cd_lw_corners ct_lw_corners), sl_lw_corners⟩)
    (c_lw_corners : PySem.W.codeIn K cd_lw_corners "_law_corners" = true)
    (k_lw_corners : PySem.W.keepIn K (.ref f_lw_corners) = true)
    (a_lw_beside : PySem.W.nsIn K mainGlobals "_law_beside" = some (some (.ref f_lw_beside)))
    (l_lw_beside : K.lookup f_lw_beside = some ⟨oc_lw_beside, od_lw_beside, .func (PySem.W.fnOf "_law_beside" "_law_beside" (defArgs s_lw_beside) (defBody s_lw_beside) (defScope s_lw_beside) .none kV_lw_beside dc_lw_beside pm_lw_beside an_lw_beside cd_lw_beside ct_lw_beside), sl_lw_beside⟩)
    (c_lw_beside : PySem.W.codeIn K cd_lw_beside "_law_beside" = true)
    (k_lw_beside : PySem.W.keepIn K (.ref f_lw_beside) = true)
    (a_lw_lots_by : PySem.W.nsIn K mainGlobals "_law_lots_by" = some (some (.ref f_lw_lots_by)))
    (l_lw_lots_by : K.lookup f_lw_lots_by = some ⟨oc_lw_lots_by, od_lw_lots_by, .func (PySem.W.fnOf "_law_lots_by" "_law_lots_by" (defArgs s_lw_lots_by) (defBody s_lw_lots_by) (defScope s_lw_lots_by) .none kV_lw_lots_by dc_lw_lots_by pm_lw_lots_by an_lw_lots_by cd_lw_lots_by ct_lw_lots_by), sl_lw_lots_by⟩)
    (c_lw_lots_by : PySem.W.codeIn K cd_lw_lots_by "_law_lots_by" = true)
    (k_lw_lots_by : PySem.W.keepIn K (.ref f_lw_lots_by) = true)
    (a_lw_is_room : PySem.W.nsIn K mainGlobals "_law_is_room" = some (some (.ref f_lw_is_room)))
    (l_lw_is_room : K.lookup f_lw_is_room = some ⟨oc_lw_is_room, od_lw_is_room, .func (PySem.W.fnOf "_law_is_room" "_law_is_room" (defArgs s_lw_is_room) (defBody s_lw_is_room) (defScope s_lw_is_room) .none kV_lw_is_room dc_lw_is_room pm_lw_is_room an_lw_is_room cd_lw_is_room ct_lw_is_room), sl_lw_is_room⟩)
    (c_lw_is_room : PySem.W.codeIn K cd_lw_is_room "_law_is_room" = true)
    (k_lw_is_room : PySem.W.keepIn K (.ref f_lw_is_room) = true)
    (a_lw_deal : PySem.W.nsIn K mainGlobals "_law_deal" = some (some (.ref f_lw_deal)))
    (l_lw_deal : K.lookup f_lw_deal = some ⟨oc_lw_deal, od_lw_deal, .func (PySem.W.fnOf "_law_deal" "_law_deal" (defArgs s_lw_deal) (defBody s_lw_deal) (defScope s_lw_deal) .none kV_lw_deal dc_lw_deal pm_lw_deal an_lw_deal cd_lw_deal ct_lw_deal), sl_lw_deal⟩)
    (c_lw_deal : PySem.W.codeIn K cd_lw_deal "_law_deal" = true)
    (k_lw_deal : PySem.W.keepIn K (.ref f_lw_deal) = true)
    (a_lw_draw : PySem.W.nsIn K mainGlobals "_law_draw" = some (some (.ref f_lw_draw)))
    (l_lw_draw : K.lookup f_lw_draw = some ⟨oc_lw_draw, od_lw_draw, .func (PySem.W.fnOf "_law_draw" "_law_draw" (defArgs s_lw_draw) (defBody s_lw_draw) (defScope s_lw_draw) .none kV_lw_draw dc_lw_draw pm_lw_draw an_lw_draw cd_lw_draw ct_lw_draw), sl_lw_draw⟩)
    (c_lw_draw : PySem.W.codeIn K cd_lw_draw "_law_draw" = true)
    (k_lw_draw : PySem.W.keepIn K (.ref f_lw_draw) = true)
    (a_lw_pick : PySem.W.nsIn K mainGlobals "_law_pick" = some (some (.ref f_lw_pick)))
    (l_lw_pick : K.lookup f_lw_pick = some ⟨oc_lw_pick, od_lw_pick, .func (PySem.W.fnOf "_law_pick" "_law_pick" (defArgs s_lw_pick) (defBody s_lw_pick) (defScope s_lw_pick) .none kV_lw_pick dc_lw_pick pm_lw_pick an_lw_pick cd_lw_pick ct_lw_pick), sl_lw_pick⟩)
    (c_lw_pick : PySem.W.codeIn K cd_lw_pick "_law_pick" = true)
    (k_lw_pick : PySem.W.keepIn K (.ref f_lw_pick) = true)
    (a_lw_mixed : PySem.W.nsIn K mainGlobals "_law_mixed" = some (some (.ref f_lw_mixed)))
    (l_lw_mixed : K.lookup f_lw_mixed = some ⟨oc_lw_mixed, od_lw_mixed, .func (PySem.W.fnOf "_law_mixed" "_law_mixed" (defArgs s_lw_mixed) (defBody s_lw_mixed) (defScope s_lw_mixed) .none kV_lw_mixed dc_lw_mixed pm_lw_mixed an_lw_mixed cd_lw_mixed ct_lw_mixed), sl_lw_mixed⟩)
    (c_lw_mixed : PySem.W.codeIn K cd_lw_mixed "_law_mixed" = true)
    (k_lw_mixed : PySem.W.keepIn K (.ref f_lw_mixed) = true)
    (a_lw_names : PySem.W.nsIn K mainGlobals "_law_names" = some (some (.ref f_lw_names)))
    (l_lw_names : K.lookup f_lw_names = some ⟨oc_lw_names, od_lw_names, .func (PySem.W.fnOf "_law_names" "_law_names" (defArgs s_lw_names) (defBody s_lw_names) (defScope s_lw_names) .none kV_lw_names dc_lw_names pm_lw_names an_lw_names cd_lw_names ct_lw_names), sl_lw_names⟩)
    (c_lw_names : PySem.W.codeIn K cd_lw_names "_law_names" = true)
    (k_lw_names : PySem.W.keepIn K (.ref f_lw_names) = true)
    (a_lw_with : PySem.W.nsIn K mainGlobals "_law_with" = some (some (.ref f_lw_with)))
    (l_lw_with : K.lookup f_lw_with = some ⟨oc_lw_with, od_lw_with, .func (PySem.W.fnOf "_law_with" "_law_with" (defArgs s_lw_with) (defBody s_lw_with) (defScope s_lw_with) .none kV_lw_with dc_lw_with pm_lw_with an_lw_with cd_lw_with ct_lw_with), sl_lw_with⟩)
    (c_lw_with : PySem.W.codeIn K cd_lw_with "_law_with" = true)
    (k_lw_with : PySem.W.keepIn K (.ref f_lw_with) = true)
    (a_lw_main : PySem.W.nsIn K mainGlobals "law" = some (some (.ref f_lw_main)))
    (l_lw_main : K.lookup f_lw_main = some ⟨oc_lw_main, od_lw_main, .func (PySem.W.fnOf "law" "law" (defArgs s_lw_main) (defBody s_lw_main) (defScope s_lw_main) .none kV_lw_main dc_lw_main pm_lw_main an_lw_main cd_lw_main ct_lw_main), sl_lw_main⟩)
    (c_lw_main : PySem.W.codeIn K cd_lw_main "law" = true)
    (k_lw_main : PySem.W.keepIn K (.ref f_lw_main) = true)
    (sn_Room_Rule : PySem.W.subIn K (.ref C_Room) (.ref C_Rule) = some false)
    (sa_InvalidDrawing : PySem.W.findIn K (.ref C_InvalidDrawing) "__setattr__" = some (some (.builtin "object.__setattr__")))
    (ga_InvalidDrawing : PySem.W.findIn K (.ref C_InvalidDrawing) "__getattribute__" = some (some (.builtin "BaseException.__getattribute__")))
    (gg_InvalidDrawing : PySem.W.findIn K (.ref C_InvalidDrawing) "__getattr__" = some none)
    (nb_InvalidDrawing : PySem.W.findIn K (.ref C_InvalidDrawing) "at" = some none)
    (tI_InvalidDrawing : PySem.W.typeIn K (.ref f_InvalidDrawing_init) = some (.type "function"))
    (kC_InvalidDrawing : PySem.W.keepIn K (.ref C_InvalidDrawing) = true)
    (eC_InvalidDrawing : PySem.W.subIn K (.ref C_InvalidDrawing) (.type "BaseException") = some true)
    (tC_InvalidDrawing : PySem.W.typeIn K (.ref C_InvalidDrawing) = some (.type "type"))
    (hC_InvalidDrawing : PySem.W.hasDictIn K C_InvalidDrawing = true)
    (sC_InvalidDrawing : PySem.W.subIn K (.ref C_InvalidDrawing) (.ref C_InvalidDrawing) = some true)
    (hA_InvalidDrawing : PySem.W.findIn K (.ref C_InvalidDrawing) "__class__" = some (some (.builtin "object.__class__")))
    (hN_InvalidDrawing : PySem.W.specialIn K (.builtin "object.__class__") "__get__" = some (some (.builtin "getset_descriptor.__get__")))
    (hT_InvalidDrawing : PySem.W.takesIn K (.builtin "object.__class__") = some true)
    (hM_InvalidDrawing : PySem.W.mroIn K C_InvalidDrawing (.type "object") = some true)
    (sa_InvalidRule : PySem.W.findIn K (.ref C_InvalidRule) "__setattr__" = some (some (.builtin "object.__setattr__")))
    (ga_InvalidRule : PySem.W.findIn K (.ref C_InvalidRule) "__getattribute__" = some (some (.builtin "BaseException.__getattribute__")))
    (gg_InvalidRule : PySem.W.findIn K (.ref C_InvalidRule) "__getattr__" = some none)
    (nb_InvalidRule : PySem.W.findIn K (.ref C_InvalidRule) "word" = some none)
    (tI_InvalidRule : PySem.W.typeIn K (.ref f_InvalidRule_init) = some (.type "function"))
    (kC_InvalidRule : PySem.W.keepIn K (.ref C_InvalidRule) = true)
    (eC_InvalidRule : PySem.W.subIn K (.ref C_InvalidRule) (.type "BaseException") = some true)
    (tC_InvalidRule : PySem.W.typeIn K (.ref C_InvalidRule) = some (.type "type"))
    (hC_InvalidRule : PySem.W.hasDictIn K C_InvalidRule = true)
    (sC_InvalidRule : PySem.W.subIn K (.ref C_InvalidRule) (.ref C_InvalidRule) = some true)
    (hA_InvalidRule : PySem.W.findIn K (.ref C_InvalidRule) "__class__" = some (some (.builtin "object.__class__")))
    (hN_InvalidRule : PySem.W.specialIn K (.builtin "object.__class__") "__get__" = some (some (.builtin "getset_descriptor.__get__")))
    (hT_InvalidRule : PySem.W.takesIn K (.builtin "object.__class__") = some true)
    (hM_InvalidRule : PySem.W.mroIn K C_InvalidRule (.type "object") = some true)
    (n_abs : PySem.W.nsIn K mainGlobals "abs" = some none)
    (n_all : PySem.W.nsIn K mainGlobals "all" = some none)
    (n_any : PySem.W.nsIn K mainGlobals "any" = some none)
    (n_bool : PySem.W.nsIn K mainGlobals "bool" = some none)
    (n_enumerate : PySem.W.nsIn K mainGlobals "enumerate" = some none)
    (n_int : PySem.W.nsIn K mainGlobals "int" = some none)
    (n_isinstance : PySem.W.nsIn K mainGlobals "isinstance" = some none)
    (n_len : PySem.W.nsIn K mainGlobals "len" = some none)
    (n_list : PySem.W.nsIn K mainGlobals "list" = some none)
    (n_max : PySem.W.nsIn K mainGlobals "max" = some none)
    (n_min : PySem.W.nsIn K mainGlobals "min" = some none)
    (n_range : PySem.W.nsIn K mainGlobals "range" = some none)
    (n_set : PySem.W.nsIn K mainGlobals "set" = some none)
    (n_sorted : PySem.W.nsIn K mainGlobals "sorted" = some none)
    (n_str : PySem.W.nsIn K mainGlobals "str" = some none)
    (n_sum : PySem.W.nsIn K mainGlobals "sum" = some none)
    (n_tuple : PySem.W.nsIn K mainGlobals "tuple" = some none)
    (m_LETTERS : PySem.W.nsIn K mainGlobals "LETTERS" = some (some (.str "abcdefghijklmnopqrstuvwxyz" tk_LETTERS)))
    (hcd_lw_main : cd_lw_main = .ref cA_lw_main) (hPt_lw_main : h.get? PA_lw_main = some { cls := .none, data := .fields #[] }) (hCH_lw_main : PySem.W.codeHdIn K cA_lw_main PA_lw_main = true) (hPA_lw_main : K.lookup PA_lw_main = none)
    : ∃ (fd : FuncData) (Z : Wd) (cs : List (Addr × Addr)) (qs : List Str), Z.K = K ∧ cs.length = qs.length ∧ (∀ p ∈ cs, h.get? p.2 = some { cls := .none, data := .fields #[] }) ∧ (∀ p ∈ cs, K.lookup p.2 = none) ∧ (∀ p ∈ cs, PySem.W.codeHdIn K p.1 p.2 = true) ∧ (∀ (s : Shared) (v : Value), BindsTo s fd ⟨[v], []⟩ [("_law_script", v)]) ∧
      ∀ base : Heap, K.In base → base.Ns mainGlobals mg → (∀ p ∈ cs, LamX.TabB base mg p.1 p.2) → FnOk l.prog w K mg base CX0 8 fa fd ["_law_script"] (GL.spLawT Z ((cs.map (·.2)).zip qs)) := by
  obtain ⟨a, rfl, T, hb, hq_lw_main⟩ := all_mk (l := l) (w := w) X G hfa aC_Rule pg_Rule hd_Rule po_Rule sa_Rule mk_Rule kc_Rule no_Rule_name no_Rule_gone ha_Rule hn_Rule htk_Rule hm_Rule nd_Rule sx_Rule aC_Room pg_Room hd_Room po_Room sa_Room mk_Room kc_Room no_Room_rules no_Room_names ha_Room hn_Room htk_Room hm_Room aC_InvalidDrawing xL_InvalidDrawing aC_InvalidRule xL_InvalidRule sb_NoneType_Room sb_bool_Room sb_int_Room sb_str_Room sb_list_Room sb_tuple_Room so_Rule_Room so_Room_Room sb_NoneType_Rule sb_bool_Rule sb_int_Rule sb_str_Rule sb_list_Rule sb_tuple_Rule so_Rule_Rule so_Room_Rule iL_Room tL_Room iL_Rule tL_Rule a_is_int l_is_int c_is_int k_is_int a_is_index l_is_index c_is_index k_is_index a_is_name l_is_name c_is_name k_is_name a_is_sequence l_is_sequence c_is_sequence k_is_sequence a_are_names l_are_names c_are_names k_are_names a_are_unlike l_are_unlike c_are_unlike k_are_unlike a_lot_of l_lot_of c_lot_of k_lot_of a_bits_of l_bits_of c_bits_of k_bits_of a_names_of l_names_of c_names_of k_names_of a_InvalidRule_init l_InvalidRule_init c_InvalidRule_init k_InvalidRule_init a_InvalidDrawing_init l_InvalidDrawing_init c_InvalidDrawing_init k_InvalidDrawing_init a_may l_may c_may k_may a_is_fulfilled l_is_fulfilled c_is_fulfilled k_is_fulfilled a_lots l_lots c_lots k_lots a_lots_after l_lots_after c_lots_after k_lots_after a_others l_others c_others k_others a_leavers l_leavers lT_leavers lE_leavers c_leavers k_leavers a_stuck l_stuck c_stuck k_stuck a_hull l_hull c_hull k_hull a_Rule_init i_Rule_init l_Rule_init lT_Rule_init lE_Rule_init c_Rule_init k_Rule_init a_Rule_eq i_Rule_eq l_Rule_eq c_Rule_eq k_Rule_eq a_Rule_str i_Rule_str l_Rule_str c_Rule_str k_Rule_str a_read_rule l_read_rule c_read_rule k_read_rule a_Room_init i_Room_init l_Room_init lT_Room_init lE_Room_init c_Room_init k_Room_init cmf_Room_read cmr_Room_read cmi_Room_read crd_Room cga_Room l_Room_read c_Room_read k_Room_read a_Room_without i_Room_without l_Room_without c_Room_without k_Room_without a_Room_len i_Room_len l_Room_len c_Room_len k_Room_len a_Room_getitem i_Room_getitem l_Room_getitem c_Room_getitem k_Room_getitem a_Room_add i_Room_add l_Room_add c_Room_add k_Room_add a_Room_eq i_Room_eq l_Room_eq c_Room_eq k_Room_eq a_Room_str i_Room_str l_Room_str c_Room_str k_Room_str a_least_meeting l_least_meeting c_least_meeting k_least_meeting a_ones_of l_ones_of c_ones_of k_ones_of a_has_one_of l_has_one_of c_has_one_of k_has_one_of a_tree l_tree c_tree k_tree a_taken_down l_taken_down c_taken_down k_taken_down a_check_edges l_check_edges c_check_edges k_check_edges a_is_tuple_of l_is_tuple_of c_is_tuple_of k_is_tuple_of a_ring_at l_ring_at c_ring_at k_ring_at a_are_joined l_are_joined c_are_joined k_are_joined a_unjoined_beside l_unjoined_beside c_unjoined_beside k_unjoined_beside a_room_kept_by l_room_kept_by c_room_kept_by k_room_kept_by a_lw_forest l_lw_forest c_lw_forest k_lw_forest a_lw_corners l_lw_corners c_lw_corners k_lw_corners a_lw_beside l_lw_beside c_lw_beside k_lw_beside a_lw_lots_by l_lw_lots_by c_lw_lots_by k_lw_lots_by a_lw_is_room l_lw_is_room c_lw_is_room k_lw_is_room a_lw_deal l_lw_deal c_lw_deal k_lw_deal a_lw_draw l_lw_draw c_lw_draw k_lw_draw a_lw_pick l_lw_pick c_lw_pick k_lw_pick a_lw_mixed l_lw_mixed c_lw_mixed k_lw_mixed a_lw_names l_lw_names c_lw_names k_lw_names a_lw_with l_lw_with c_lw_with k_lw_with a_lw_main l_lw_main c_lw_main k_lw_main sn_Room_Rule sa_InvalidDrawing ga_InvalidDrawing gg_InvalidDrawing nb_InvalidDrawing tI_InvalidDrawing kC_InvalidDrawing eC_InvalidDrawing tC_InvalidDrawing hC_InvalidDrawing sC_InvalidDrawing hA_InvalidDrawing hN_InvalidDrawing hT_InvalidDrawing hM_InvalidDrawing sa_InvalidRule ga_InvalidRule gg_InvalidRule nb_InvalidRule tI_InvalidRule kC_InvalidRule eC_InvalidRule tC_InvalidRule hC_InvalidRule sC_InvalidRule hA_InvalidRule hN_InvalidRule hT_InvalidRule hM_InvalidRule n_abs n_all n_any n_bool n_enumerate n_int n_isinstance n_len n_list n_max n_min n_range n_set n_sorted n_str n_sum n_tuple m_LETTERS
  exact ⟨_, ZZ K a, [(cA_lw_main, PA_lw_main)], ["law.<locals>.<lambda>"], rfl, rfl, (List.forall_mem_cons.mpr ⟨hPt_lw_main, fun _ h => (nomatch h)⟩), (List.forall_mem_cons.mpr ⟨hPA_lw_main, fun _ h => (nomatch h)⟩), (List.forall_mem_cons.mpr ⟨hCH_lw_main, fun _ h => (nomatch h)⟩), hb, fun base _ _ TB => ok_main T (hq_lw_main.trans hcd_lw_main) (TB (cA_lw_main, PA_lw_main) (List.mem_cons_self))⟩
end GK
open PySem PySem.W PyProof.Rows in
set_option maxRecDepth 100000 in
set_option maxHeartbeats 0 in
theorem PySem.Challenge.cw_leavelots_k39_trees_holds : PySem.Challenge.rw_leavelots_k39_trees.Holds := by
  w_on; o_law; k_head; (case hw => w_witness2)
  k_fill
  refine GL.walkT (l := PySem.Challenge.rw_leavelots_k39_trees) (k := 8) rfl rfl ⟨rfl, by decide, by decide⟩ (fun w h Y => PySem.W.km_in_of Y) ?F
  case F =>
    intro w mg fa h Y KX G hmg
    have hT := PySem.W.km_tabs_of Y
    refine' GK.law_at (w := w) KX G hmg ?aC_Rule ?pg_Rule ?hd_Rule ?po_Rule ?sa_Rule ?mk_Rule ?kc_Rule ?no_Rule_name ?no_Rule_gone ?ha_Rule ?hn_Rule ?htk_Rule ?hm_Rule ?nd_Rule ?sx_Rule ?aC_Room ?pg_Room ?hd_Room ?po_Room ?sa_Room ?mk_Room ?kc_Room ?no_Room_rules ?no_Room_names ?ha_Room ?hn_Room ?htk_Room ?hm_Room ?aC_InvalidDrawing ?xL_InvalidDrawing ?aC_InvalidRule ?xL_InvalidRule ?sb_NoneType_Room ?sb_bool_Room ?sb_int_Room ?sb_str_Room ?sb_list_Room ?sb_tuple_Room ?so_Rule_Room ?so_Room_Room ?sb_NoneType_Rule ?sb_bool_Rule ?sb_int_Rule ?sb_str_Rule ?sb_list_Rule ?sb_tuple_Rule ?so_Rule_Rule ?so_Room_Rule ?iL_Room ?tL_Room ?iL_Rule ?tL_Rule ?a_is_int ?l_is_int ?c_is_int ?k_is_int ?a_is_index ?l_is_index ?c_is_index ?k_is_index ?a_is_name ?l_is_name ?c_is_name ?k_is_name ?a_is_sequence ?l_is_sequence ?c_is_sequence ?k_is_sequence ?a_are_names ?l_are_names ?c_are_names ?k_are_names ?a_are_unlike ?l_are_unlike ?c_are_unlike ?k_are_unlike ?a_lot_of ?l_lot_of ?c_lot_of ?k_lot_of ?a_bits_of ?l_bits_of ?c_bits_of ?k_bits_of ?a_names_of ?l_names_of ?c_names_of ?k_names_of ?a_InvalidRule_init ?l_InvalidRule_init ?c_InvalidRule_init ?k_InvalidRule_init ?a_InvalidDrawing_init ?l_InvalidDrawing_init ?c_InvalidDrawing_init ?k_InvalidDrawing_init ?a_may ?l_may ?c_may ?k_may ?a_is_fulfilled ?l_is_fulfilled ?c_is_fulfilled ?k_is_fulfilled ?a_lots ?l_lots ?c_lots ?k_lots ?a_lots_after ?l_lots_after ?c_lots_after ?k_lots_after ?a_others ?l_others ?c_others ?k_others ?a_leavers ?l_leavers ?lT_leavers ?lE_leavers ?c_leavers ?k_leavers ?a_stuck ?l_stuck ?c_stuck ?k_stuck ?a_hull ?l_hull ?c_hull ?k_hull ?a_Rule_init ?i_Rule_init ?l_Rule_init ?lT_Rule_init ?lE_Rule_init ?c_Rule_init ?k_Rule_init ?a_Rule_eq ?i_Rule_eq ?l_Rule_eq ?c_Rule_eq ?k_Rule_eq ?a_Rule_str ?i_Rule_str ?l_Rule_str ?c_Rule_str ?k_Rule_str ?a_read_rule ?l_read_rule ?c_read_rule ?k_read_rule ?a_Room_init ?i_Room_init ?l_Room_init ?lT_Room_init ?lE_Room_init ?c_Room_init ?k_Room_init ?cmf_Room_read ?cmr_Room_read ?cmi_Room_read ?crd_Room ?cga_Room ?l_Room_read ?c_Room_read ?k_Room_read ?a_Room_without ?i_Room_without ?l_Room_without ?c_Room_without ?k_Room_without ?a_Room_len ?i_Room_len ?l_Room_len ?c_Room_len ?k_Room_len ?a_Room_getitem ?i_Room_getitem ?l_Room_getitem ?c_Room_getitem ?k_Room_getitem ?a_Room_add ?i_Room_add ?l_Room_add ?c_Room_add ?k_Room_add ?a_Room_eq ?i_Room_eq ?l_Room_eq ?c_Room_eq ?k_Room_eq ?a_Room_str ?i_Room_str ?l_Room_str ?c_Room_str ?k_Room_str ?a_least_meeting ?l_least_meeting ?c_least_meeting ?k_least_meeting ?a_ones_of ?l_ones_of ?c_ones_of ?k_ones_of ?a_has_one_of ?l_has_one_of ?c_has_one_of ?k_has_one_of ?a_tree ?l_tree ?c_tree ?k_tree ?a_taken_down ?l_taken_down ?c_taken_down ?k_taken_down ?a_check_edges ?l_check_edges ?c_check_edges ?k_check_edges ?a_is_tuple_of ?l_is_tuple_of ?c_is_tuple_of ?k_is_tuple_of ?a_ring_at ?l_ring_at ?c_ring_at ?k_ring_at ?a_are_joined ?l_are_joined ?c_are_joined ?k_are_joined ?a_unjoined_beside ?l_unjoined_beside ?c_unjoined_beside ?k_unjoined_beside ?a_room_kept_by ?l_room_kept_by ?c_room_kept_by ?k_room_kept_by ?a_lw_forest ?l_lw_forest ?c_lw_forest ?k_lw_forest ?a_lw_corners ?l_lw_corners ?c_lw_corners ?k_lw_corners ?a_lw_beside ?l_lw_beside ?c_lw_beside ?k_lw_beside ?a_lw_lots_by ?l_lw_lots_by ?c_lw_lots_by ?k_lw_lots_by ?a_lw_is_room ?l_lw_is_room ?c_lw_is_room ?k_lw_is_room ?a_lw_deal ?l_lw_deal ?c_lw_deal ?k_lw_deal ?a_lw_draw ?l_lw_draw ?c_lw_draw ?k_lw_draw ?a_lw_pick ?l_lw_pick ?c_lw_pick ?k_lw_pick ?a_lw_mixed ?l_lw_mixed ?c_lw_mixed ?k_lw_mixed ?a_lw_names ?l_lw_names ?c_lw_names ?k_lw_names ?a_lw_with ?l_lw_with ?c_lw_with ?k_lw_with ?a_lw_main ?l_lw_main ?c_lw_main ?k_lw_main ?sn_Room_Rule ?sa_InvalidDrawing ?ga_InvalidDrawing ?gg_InvalidDrawing ?nb_InvalidDrawing ?tI_InvalidDrawing ?kC_InvalidDrawing ?eC_InvalidDrawing ?tC_InvalidDrawing ?hC_InvalidDrawing ?sC_InvalidDrawing ?hA_InvalidDrawing ?hN_InvalidDrawing ?hT_InvalidDrawing ?hM_InvalidDrawing ?sa_InvalidRule ?ga_InvalidRule ?gg_InvalidRule ?nb_InvalidRule ?tI_InvalidRule ?kC_InvalidRule ?eC_InvalidRule ?tC_InvalidRule ?hC_InvalidRule ?sC_InvalidRule ?hA_InvalidRule ?hN_InvalidRule ?hT_InvalidRule ?hM_InvalidRule ?n_abs ?n_all ?n_any ?n_bool ?n_enumerate ?n_int ?n_isinstance ?n_len ?n_list ?n_max ?n_min ?n_range ?n_set ?n_sorted ?n_str ?n_sum ?n_tuple ?m_LETTERS ?hcd_lw_main ?hPt_lw_main ?hCH_lw_main ?hPA_lw_main
    (case aC_Rule => k_is)
    (case pg_Rule => k_is)
    (case hd_Rule => k_is)
    (case po_Rule => k_is)
    (case sa_Rule => k_is)
    (case mk_Rule => k_is)
    (case kc_Rule => k_is)
    (case no_Rule_name => k_is)
    (case no_Rule_gone => k_is)
    (case ha_Rule => k_is)
    (case hn_Rule => k_is)
    (case htk_Rule => k_is)
    (case hm_Rule => k_is)
    (case nd_Rule => k_is)
    (case sx_Rule => k_is)
    (case aC_Room => k_is)
    (case pg_Room => k_is)
    (case hd_Room => k_is)
    (case po_Room => k_is)
    (case sa_Room => k_is)
    (case mk_Room => k_is)
    (case kc_Room => k_is)
    (case no_Room_rules => k_is)
    (case no_Room_names => k_is)
    (case ha_Room => k_is)
    (case hn_Room => k_is)
    (case htk_Room => k_is)
    (case hm_Room => k_is)
    (case aC_InvalidDrawing => k_is)
    (case xL_InvalidDrawing => k_is)
    (case aC_InvalidRule => k_is)
    (case xL_InvalidRule => k_is)
    (case sb_NoneType_Room => k_is)
    (case sb_bool_Room => k_is)
    (case sb_int_Room => k_is)
    (case sb_str_Room => k_is)
    (case sb_list_Room => k_is)
    (case sb_tuple_Room => k_is)
    (case so_Rule_Room => k_is)
    (case so_Room_Room => k_is)
    (case sb_NoneType_Rule => k_is)
    (case sb_bool_Rule => k_is)
    (case sb_int_Rule => k_is)
    (case sb_str_Rule => k_is)
    (case sb_list_Rule => k_is)
    (case sb_tuple_Rule => k_is)
    (case so_Rule_Rule => k_is)
    (case so_Room_Rule => k_is)
    (case iL_Room => k_is)
    (case tL_Room => k_is)
    (case iL_Rule => k_is)
    (case tL_Rule => k_is)
    (case a_is_int => k_is)
    (case l_is_int => k_is)
    (case c_is_int => k_is)
    (case k_is_int => k_is)
    (case a_is_index => k_is)
    (case l_is_index => k_is)
    (case c_is_index => k_is)
    (case k_is_index => k_is)
    (case a_is_name => k_is)
    (case l_is_name => k_is)
    (case c_is_name => k_is)
    (case k_is_name => k_is)
    (case a_is_sequence => k_is)
    (case l_is_sequence => k_is)
    (case c_is_sequence => k_is)
    (case k_is_sequence => k_is)
    (case a_are_names => k_is)
    (case l_are_names => k_is)
    (case c_are_names => k_is)
    (case k_are_names => k_is)
    (case a_are_unlike => k_is)
    (case l_are_unlike => k_is)
    (case c_are_unlike => k_is)
    (case k_are_unlike => k_is)
    (case a_lot_of => k_is)
    (case l_lot_of => k_is)
    (case c_lot_of => k_is)
    (case k_lot_of => k_is)
    (case a_bits_of => k_is)
    (case l_bits_of => k_is)
    (case c_bits_of => k_is)
    (case k_bits_of => k_is)
    (case a_names_of => k_is)
    (case l_names_of => k_is)
    (case c_names_of => k_is)
    (case k_names_of => k_is)
    (case a_InvalidRule_init => k_is)
    (case l_InvalidRule_init => k_is)
    (case c_InvalidRule_init => k_is)
    (case k_InvalidRule_init => k_is)
    (case a_InvalidDrawing_init => k_is)
    (case l_InvalidDrawing_init => k_is)
    (case c_InvalidDrawing_init => k_is)
    (case k_InvalidDrawing_init => k_is)
    (case a_may => k_is)
    (case l_may => k_is)
    (case c_may => k_is)
    (case k_may => k_is)
    (case a_is_fulfilled => k_is)
    (case l_is_fulfilled => k_is)
    (case c_is_fulfilled => k_is)
    (case k_is_fulfilled => k_is)
    (case a_lots => k_is)
    (case l_lots => k_is)
    (case c_lots => k_is)
    (case k_lots => k_is)
    (case a_lots_after => k_is)
    (case l_lots_after => k_is)
    (case c_lots_after => k_is)
    (case k_lots_after => k_is)
    (case a_others => k_is)
    (case l_others => k_is)
    (case c_others => k_is)
    (case k_others => k_is)
    (case a_leavers => k_is)
    (case l_leavers => k_is)
    (case lT_leavers => k_is)
    (case lE_leavers => k_is)
    (case c_leavers => k_is)
    (case k_leavers => k_is)
    (case a_stuck => k_is)
    (case l_stuck => k_is)
    (case c_stuck => k_is)
    (case k_stuck => k_is)
    (case a_hull => k_is)
    (case l_hull => k_is)
    (case c_hull => k_is)
    (case k_hull => k_is)
    (case a_Rule_init => k_is)
    (case i_Rule_init => k_is)
    (case l_Rule_init => k_is)
    (case lT_Rule_init => k_is)
    (case lE_Rule_init => k_is)
    (case c_Rule_init => k_is)
    (case k_Rule_init => k_is)
    (case a_Rule_eq => k_is)
    (case i_Rule_eq => k_is)
    (case l_Rule_eq => k_is)
    (case c_Rule_eq => k_is)
    (case k_Rule_eq => k_is)
    (case a_Rule_str => k_is)
    (case i_Rule_str => k_is)
    (case l_Rule_str => k_is)
    (case c_Rule_str => k_is)
    (case k_Rule_str => k_is)
    (case a_read_rule => k_is)
    (case l_read_rule => k_is)
    (case c_read_rule => k_is)
    (case k_read_rule => k_is)
    (case a_Room_init => k_is)
    (case i_Room_init => k_is)
    (case l_Room_init => k_is)
    (case lT_Room_init => k_is)
    (case lE_Room_init => k_is)
    (case c_Room_init => k_is)
    (case k_Room_init => k_is)
    (case cmf_Room_read => k_is)
    (case cmr_Room_read => k_is)
    (case cmi_Room_read => k_is)
    (case crd_Room => k_is)
    (case cga_Room => k_is)
    (case l_Room_read => k_is)
    (case c_Room_read => k_is)
    (case k_Room_read => k_is)
    (case a_Room_without => k_is)
    (case i_Room_without => k_is)
    (case l_Room_without => k_is)
    (case c_Room_without => k_is)
    (case k_Room_without => k_is)
    (case a_Room_len => k_is)
    (case i_Room_len => k_is)
    (case l_Room_len => k_is)
    (case c_Room_len => k_is)
    (case k_Room_len => k_is)
    (case a_Room_getitem => k_is)
    (case i_Room_getitem => k_is)
    (case l_Room_getitem => k_is)
    (case c_Room_getitem => k_is)
    (case k_Room_getitem => k_is)
    (case a_Room_add => k_is)
    (case i_Room_add => k_is)
    (case l_Room_add => k_is)
    (case c_Room_add => k_is)
    (case k_Room_add => k_is)
    (case a_Room_eq => k_is)
    (case i_Room_eq => k_is)
    (case l_Room_eq => k_is)
    (case c_Room_eq => k_is)
    (case k_Room_eq => k_is)
    (case a_Room_str => k_is)
    (case i_Room_str => k_is)
    (case l_Room_str => k_is)
    (case c_Room_str => k_is)
    (case k_Room_str => k_is)
    (case a_least_meeting => k_is)
    (case l_least_meeting => k_is)
    (case c_least_meeting => k_is)
    (case k_least_meeting => k_is)
    (case a_ones_of => k_is)
    (case l_ones_of => k_is)
    (case c_ones_of => k_is)
    (case k_ones_of => k_is)
    (case a_has_one_of => k_is)
    (case l_has_one_of => k_is)
    (case c_has_one_of => k_is)
    (case k_has_one_of => k_is)
    (case a_tree => k_is)
    (case l_tree => k_is)
    (case c_tree => k_is)
    (case k_tree => k_is)
    (case a_taken_down => k_is)
    (case l_taken_down => k_is)
    (case c_taken_down => k_is)
    (case k_taken_down => k_is)
    (case a_check_edges => k_is)
    (case l_check_edges => k_is)
    (case c_check_edges => k_is)
    (case k_check_edges => k_is)
    (case a_is_tuple_of => k_is)
    (case l_is_tuple_of => k_is)
    (case c_is_tuple_of => k_is)
    (case k_is_tuple_of => k_is)
    (case a_ring_at => k_is)
    (case l_ring_at => k_is)
    (case c_ring_at => k_is)
    (case k_ring_at => k_is)
    (case a_are_joined => k_is)
    (case l_are_joined => k_is)
    (case c_are_joined => k_is)
    (case k_are_joined => k_is)
    (case a_unjoined_beside => k_is)
    (case l_unjoined_beside => k_is)
    (case c_unjoined_beside => k_is)
    (case k_unjoined_beside => k_is)
    (case a_room_kept_by => k_is)
    (case l_room_kept_by => k_is)
    (case c_room_kept_by => k_is)
    (case k_room_kept_by => k_is)
    (case a_lw_forest => k_is)
    (case l_lw_forest => k_is)
    (case c_lw_forest => k_is)
    (case k_lw_forest => k_is)
    (case a_lw_corners => k_is)
    (case l_lw_corners => k_is)
    (case c_lw_corners => k_is)
    (case k_lw_corners => k_is)
    (case a_lw_beside => k_is)
    (case l_lw_beside => k_is)
    (case c_lw_beside => k_is)
    (case k_lw_beside => k_is)
    (case a_lw_lots_by => k_is)
    (case l_lw_lots_by => k_is)
    (case c_lw_lots_by => k_is)
    (case k_lw_lots_by => k_is)
    (case a_lw_is_room => k_is)
    (case l_lw_is_room => k_is)
    (case c_lw_is_room => k_is)
    (case k_lw_is_room => k_is)
    (case a_lw_deal => k_is)
    (case l_lw_deal => k_is)
    (case c_lw_deal => k_is)
    (case k_lw_deal => k_is)
    (case a_lw_draw => k_is)
    (case l_lw_draw => k_is)
    (case c_lw_draw => k_is)
    (case k_lw_draw => k_is)
    (case a_lw_pick => k_is)
    (case l_lw_pick => k_is)
    (case c_lw_pick => k_is)
    (case k_lw_pick => k_is)
    (case a_lw_mixed => k_is)
    (case l_lw_mixed => k_is)
    (case c_lw_mixed => k_is)
    (case k_lw_mixed => k_is)
    (case a_lw_names => k_is)
    (case l_lw_names => k_is)
    (case c_lw_names => k_is)
    (case k_lw_names => k_is)
    (case a_lw_with => k_is)
    (case l_lw_with => k_is)
    (case c_lw_with => k_is)
    (case k_lw_with => k_is)
    (case a_lw_main => k_is)
    (case l_lw_main => k_is)
    (case c_lw_main => k_is)
    (case k_lw_main => k_is)
    (case sn_Room_Rule => k_is)
    (case sa_InvalidDrawing => k_is)
    (case ga_InvalidDrawing => k_is)
    (case gg_InvalidDrawing => k_is)
    (case nb_InvalidDrawing => k_is)
    (case tI_InvalidDrawing => k_is)
    (case kC_InvalidDrawing => k_is)
    (case eC_InvalidDrawing => k_is)
    (case tC_InvalidDrawing => k_is)
    (case hC_InvalidDrawing => k_is)
    (case sC_InvalidDrawing => k_is)
    (case hA_InvalidDrawing => k_is)
    (case hN_InvalidDrawing => k_is)
    (case hT_InvalidDrawing => k_is)
    (case hM_InvalidDrawing => k_is)
    (case sa_InvalidRule => k_is)
    (case ga_InvalidRule => k_is)
    (case gg_InvalidRule => k_is)
    (case nb_InvalidRule => k_is)
    (case tI_InvalidRule => k_is)
    (case kC_InvalidRule => k_is)
    (case eC_InvalidRule => k_is)
    (case tC_InvalidRule => k_is)
    (case hC_InvalidRule => k_is)
    (case sC_InvalidRule => k_is)
    (case hA_InvalidRule => k_is)
    (case hN_InvalidRule => k_is)
    (case hT_InvalidRule => k_is)
    (case hM_InvalidRule => k_is)
    (case n_abs => k_is)
    (case n_all => k_is)
    (case n_any => k_is)
    (case n_bool => k_is)
    (case n_enumerate => k_is)
    (case n_int => k_is)
    (case n_isinstance => k_is)
    (case n_len => k_is)
    (case n_list => k_is)
    (case n_max => k_is)
    (case n_min => k_is)
    (case n_range => k_is)
    (case n_set => k_is)
    (case n_sorted => k_is)
    (case n_str => k_is)
    (case n_sum => k_is)
    (case n_tuple => k_is)
    (case m_LETTERS => k_is)
    (case hcd_lw_main => exact rfl)
    (case hPt_lw_main => exact hT _ ((List.mem_cons_self)))
    (case hCH_lw_main => kernel_rfl)
    (case hPA_lw_main => kernel_rfl)
