import PyProof.Rows.All
import Wide.All
import OpenK.AllK
import Wide.FinOn
import HandS.ForMost
import HandS.Flow
import HandS.Style
import HandS.StrMore
import HandS.IsInst
import HandS.Zip
import HandS.Conv
import HandS.Walk
import KE.GoesNew
import KE.GoesMore
import HandS.SetBool
import HandS.Strs
import KE.GoesComp
import PyProof.Rows.StrRev
import HandS.Star
import HandS.TryOnly
import HandS.More
import HandS.TupAny
import PyProof.StrBlock2
import PyProof.Rows.StrCountLaw
import PyProof.DictTable
import HandS.ClsMeth
import HandS.DictComp
import PyProof.StrLawsTight
import PyProof.StrLawsChain
import PyProof.Rows.StrFirst2
import PyProof.StrLawsAffix
import PyProof.StrLawsJoin
import KE.KDictZip
import HandS.Defaults
import HandS.OwnEq
import HandS.CallLocal
import HandS.Exc
import HandS.TryMany
import HandS.ExcInit
import HandS.ExcField
import HandS.HotCalls
import HandS.Lambda
import KE.GoesEnum
import KE.DataMinMax
import HandS.WordsExc
import KE.KSuper
import HandS.Nested
import HandS.Codes
import HandS.Words
import KE.KCallOwn
import OpenK.KMeth
import HandS.List
import KE.KDflt
import HandS.EndTab
import HandS.DeepEq
import HandS.Small
import HandS.Finally
import HandS.WordsDict
import KE.KNestM
import PySem.Challenge.RW_threadmark_k78_webs_and_tables_asked_by
set_option Elab.async false
set_option linter.all false
set_option maxRecDepth 100000
/-! The part that every law of this program shares: heaps, the bag, a few rules. -/
namespace Tm
open PySem PySem.Spec PyProof.Rows L2

/-! ### heaps: all but the object at b is as it was -/
def Kp (b : Addr) (H H' : Hp) : Prop := ∀ p o, p ≠ b → H p = some o → H' p = some o
theorem Kp.refl (b : Addr) (H : Hp) : Kp b H H := fun _ _ _ h => h
theorem Kp.trans {b : Addr} {H H1 H2 : Hp} (x : Kp b H H1) (y : Kp b H1 H2) : Kp b H H2 := fun p o n h => y p o n (x p o n h)
theorem Kp.of_same {b : Addr} {H H' : Hp} (s : Same H H') : Kp b H H' := fun p o _ h => s p o h
theorem Kp.set {b : Addr} {H : Hp} {o : HO} : Kp b H (upd H b o) := fun p u n h => by rw [upd_ne n]; exact h
theorem Kp.new {b q : Addr} {H : Hp} {o : HO} (h : H q = none) : Kp b H (upd H q o) := fun p u _ e => by
  rw [upd_ne (ne_of_none e h)]; exact e
/-- a store to an object that was not there at the start -/
theorem Kp.put {b q : Addr} {H H' : Hp} {o : HO} (k : Kp b H H') (h : H q = none) : Kp b H (upd H' q o) := fun p u n e => by
  rw [upd_ne (ne_of_none e h)]; exact k p u n e
theorem same_upd {H : Hp} {p : Addr} {o : HO} (h : H p = none) : Same H (upd H p o) := fun b x e => by
  rw [upd_ne (ne_of_none e h)]; exact e
theorem same_put {q : Addr} {H H' : Hp} {o : HO} (k : Same H H') (h : H q = none) : Same H (upd H' q o) := fun p u e => by
  rw [upd_ne (ne_of_none e h)]; exact k p u e
theorem Kp.free {b : Addr} {H H' : Hp} (e : Kp b H H') {l : Addr} (hb : ∃ o, H' b = some o) (h : H' l = none) : H l = none := by
  obtain ⟨o, hb⟩ := hb
  have n : l ≠ b := fun z => by rw [z, hb] at h; cases h
  cases q : H l with
  | none => rfl
  | some o => rw [e l o n q] at h; cases h
theorem Kp.seq {K : PySem.W.Frag} {b : Addr} {H H' : Hp} {a : Addr} {xs : List V} (e : Kp b H H') (n : a ≠ b) (h : SqL K H a xs) : SqL K H' a xs :=
  h.imp (fun seen => seen.imp (e a _ n) (fun ⟨ob, at_a⟩ => ⟨ob, e a _ n at_a⟩)) id

/-! ### the bag of the draws -/
def Bag (H : Hp) (b l : Addr) : Prop := ∃ (xs : List Int) (i n s : Int), H b = some (.lst [.ref l, .int i, .int n, .int s]) ∧ H l = some (.lst (xs.map V.int)) ∧ 0 ≤ i ∧ 0 ≤ n ∧ 0 ≤ s ∧ s < 2147483549
theorem bag_ne {H : Hp} {b l : Addr} {xs : List Int} {u v w : V} {a : Addr} (h : H b = some (.lst [.ref a, u, v, w])) (hl : H l = some (.lst (xs.map V.int))) : l ≠ b := ne_of hl h (by
  intro e
  have e2 := HO.lst.inj e
  cases xs with
  | nil => cases e2
  | cons x r => cases e2)
theorem Bag.hb {H : Hp} {b l : Addr} (B : Bag H b l) : ∃ o, H b = some o := by
  obtain ⟨xs, i, n, s, h, _⟩ := B
  exact ⟨_, h⟩
theorem Bag.hl {H : Hp} {b l : Addr} (B : Bag H b l) : ∃ o, H l = some o := by
  obtain ⟨xs, i, n, s, _, h, _⟩ := B
  exact ⟨_, h⟩
theorem Bag.nb {H : Hp} {b l q : Addr} (B : Bag H b l) (h : H q = none) : q ≠ b := fun e => by
  obtain ⟨o, hb⟩ := B.hb
  rw [e, hb] at h; cases h
theorem Bag.nl {H : Hp} {b l q : Addr} (B : Bag H b l) (h : H q = none) : q ≠ l := fun e => by
  obtain ⟨o, hb⟩ := B.hl
  rw [e, hb] at h; cases h
/-- a store elsewhere -/
theorem Bag.put {H : Hp} {b l q : Addr} {o : HO} (B : Bag H b l) (n1 : q ≠ b) (n2 : q ≠ l) : Bag (upd H q o) b l := by
  obtain ⟨xs, i, n, s, hb, hl, r⟩ := B
  exact ⟨xs, i, n, s, by rw [upd_ne n1.symm]; exact hb, by rw [upd_ne n2.symm]; exact hl, r⟩
theorem Bag.new {H : Hp} {b l q : Addr} {o : HO} (B : Bag H b l) (h : H q = none) : Bag (upd H q o) b l := B.put (B.nb h) (B.nl h)
theorem Bag.same {H H' : Hp} {b l : Addr} (B : Bag H b l) (k : Same H H') : Bag H' b l := by
  obtain ⟨xs, i, n, s, hb, hl, r⟩ := B
  exact ⟨xs, i, n, s, k _ _ hb, k _ _ hl, r⟩

/-! ### list(text) -/
def sig (c : Nat) : V := .str ⟨#[c]⟩
/-- two lists, place by place -/
theorem placewise {α β : Type} {R : α → β → Prop} : ∀ (as : List α) (bs : List β), as.length = bs.length → (∀ (j : Nat) (a : α) (b : β), as[j]? = some a → bs[j]? = some b → R a b) → Paired R as bs
  | [], [], _, _ => .nil
  | a :: as, b :: bs, hl, h => .cons (h 0 a b rfl rfl) (placewise as bs (Nat.succ.inj hl) fun j x y hx hy => h (j + 1) x y hx hy)
/-- the cells that the machine drew out of a text are its signs -/
theorem signs_drawn (z : Str) (cells : Array Value) (drawn : ItemsOf (SignAt z) cells z.cps.size) : Vals (z.cps.toList.map sig) cells.toList := by
  apply placewise
  · simp [drawn.1]
  · intro j v u hv hu
    rw [Array.getElem?_toList] at hu
    rcases drawn.2 j u hu with ⟨code, tok, there, rfl⟩
    have same : v = sig code := by
      rw [List.getElem?_map, Array.getElem?_toList, there] at hv
      exact (Option.some.inj hv).symm
    rw [same]
    exact ⟨tok, rfl⟩
theorem call_listS {X : Cx} (calm : X.calm = true) : CallR X (.type "list") (fun given H Q => ∃ z : Str, given = [.str z] ∧ z.length ≤ sizeLine ∧ ∀ l, H l = none → Q (.ref l) (upd H l (.lst (z.cps.toList.map sig)))) :=
  fun pins s σ H given held Q inv rel ask => by
    rcases ask with ⟨z, rfl, short, hand⟩
    match held, rel with
    | [_], .cons ⟨tok, rfl⟩ .nil =>
      apply PySem.call_list_str (inv.ok.hd calm) z tok (hn := short)
      intro heap toks cells ver kept made drawn
      have long : (z.cps.toList.map sig).length ≤ sizeLine := by
        rw [List.length_map, Array.length_toList]
        exact short
      have stands : Inv X pins σ (upd H s.heap.objs.size (.lst (z.cps.toList.map sig))) { s with heap := heap, toks := toks } :=
        inv.laid kept (Nat.le_refl _) ⟨long, cells.toList, ver, signs_drawn z cells drawn, made⟩
      exact ⟨V.ref s.heap.objs.size, _, stands, rfl, hand _ (inv.hok.fresh (Nat.le_refl _))⟩

/-! ### small things -/
theorem cut {t1 t2 : TS} {D : Ends} {σ : L2.St} {H : Hp} (Pv : L2.St → Hp → Prop) (h2 : ∀ σ' H', Pv σ' H' → t2 D σ' H') (h1 : ∀ N : L2.St → Hp → Prop, (∀ σ' H', Pv σ' H' → N σ' H') → t1 { D with nx := N } σ H) : tSeq t1 t2 D σ H := h1 _ h2
theorem cut_ints (ns : List Int) (lo hi : Option Int) : ∃ ms : List Int, cutV (ns.map V.int) lo hi = ms.map V.int := by
  unfold cutV
  rw [← List.map_drop, ← List.map_take]
  exact ⟨_, rfl⟩
theorem cut_int {ns : List Int} {lo hi : Option Int} {i : Nat} {y : V} (h : (cutV (ns.map V.int) lo hi)[i]? = some y) : ∃ u, y = V.int u := by
  obtain ⟨ms, e⟩ := cut_ints ns lo hi
  rw [e, List.getElem?_map] at h
  cases e2 : ms[i]? with
  | none => rw [e2] at h; cases h
  | some u => rw [e2] at h; exact ⟨u, (Option.some.inj h).symm⟩

/-! ### what the helpers promise -/
def spBag (K : PySem.W.Frag) : Sp := fun vs H Q _ => ∃ (a : Addr) (ns : List Int), vs = [.ref a] ∧ SqL K H a (ns.map V.int) ∧ ∀ H' b l, Same H H' → H b = none → H l = none → Bag H' b l → Q (.ref b) H'
def spPull : Sp := fun vs H Q _ => ∃ (b l : Addr) (m : Int), vs = [.ref b, .int m] ∧ Bag H b l ∧ 0 < m ∧ m < 1073741824 ∧ ∀ H' (d : Int), Kp b H H' → Bag H' b l → 0 ≤ d → d < m → Q (.int d) H'

/-! ### equal data -/
inductive Eqv (H : Hp) : Nat → V → V → Prop where
  | non (n : Nat) : Eqv H n .non .non
  | bl (n : Nat) (b : Bool) : Eqv H n (.bl b) (.bl b)
  | int (n : Nat) (i : Int) : Eqv H n (.int i) (.int i)
  | str (n : Nat) (z : Str) : Eqv H n (.str z) (.str z)
  | lst {n : Nat} {p q : Addr} {xs ys : List V} (hp : H p = some (.lst xs)) (hq : H q = some (.lst ys)) (hl : xs.length = ys.length) (hz : xs.length ≤ 10000) (h : ∀ (i : Nat) (x y : V), xs[i]? = some x → ys[i]? = some y → Eqv H n x y) : Eqv H (n + 1) (.ref p) (.ref q)
  | tup {n : Nat} {p q : Addr} {xs ys : List V} (hp : H p = some (.tup xs)) (hq : H q = some (.tup ys)) (hl : xs.length = ys.length) (hz : xs.length ≤ 10000) (h : ∀ (i : Nat) (x y : V), xs[i]? = some x → ys[i]? = some y → Eqv H n x y) : Eqv H (n + 1) (.ref p) (.ref q)
theorem Eqv.same {H H' : Hp} (s : Same H H') {n : Nat} {x y : V} (e : Eqv H n x y) : Eqv H' n x y := by
  induction e with
  | non n => exact .non n
  | bl n b => exact .bl n b
  | int n i => exact .int n i
  | str n z => exact .str n z
  | lst hp hq hl hz h ih => exact .lst (s _ _ hp) (s _ _ hq) hl hz ih
  | tup hp hq hl hz h ih => exact .tup (s _ _ hp) (s _ _ hq) hl hz ih
def spSame (n : Nat) : Sp := fun vs H Q _ => ∃ (x y : V), vs = [x, y] ∧ Eqv H n x y ∧ ∀ H', Same H H' → Q (.bl true) H'
/-- the type of a flat value -/
theorem kit_list {K : PySem.W.Frag} {a : String} {r : Bool} (h : kitB a "list" = some r) (h2 : r = false → kitB a "tuple" = some false) : PySem.W.kitAny K (.type a) [.type "list", .type "tuple"] = some r := by
  refine kitAny_cons (kit_ty h) (fun e => ?_) (fun e => e)
  subst e
  exact kitAny_cons (kit_ty (h2 rfl)) (fun _ => kitAny_nil) (fun e => by cases e)
theorem kit_tup {K : PySem.W.Frag} : PySem.W.kitAny K (.type "tuple") [.type "list", .type "tuple"] = some true :=
  kitAny_cons (b := false) (kit_ty (by decide +kernel)) (fun _ => kitAny_cons (b := true) (kit_ty (by decide +kernel)) (fun e => by cases e) (fun _ => rfl)) (fun e => by cases e)
/-- zip of two tuples, walked to the end of the shorter -/
theorem zip_tuples {K : PySem.W.Frag} {a b : Addr} {xs ys : List V} (hl : xs.length = ys.length) : Walk (RZ.ItzT K a b) xs.length (fun H => SqT K H a xs ∧ SqT K H b ys) (YPair (fun i => xs[i]?) (fun i => ys[i]?)) where
  goes := fun i H lt both => ⟨xs, ys, xs[i], ys[i]'(by omega), both.1, both.2, List.getElem?_eq_getElem lt, List.getElem?_eq_getElem (by omega)⟩
  stops := fun H both => ⟨xs, ys, both.1, both.2, .inl (Nat.le_refl _)⟩
  yields := fun i H v H' _ both ⟨T, x, y, e, new, after, at_x, at_y⟩ => ⟨T, x, y, e, new, after, at_x xs both.1, at_y ys both.2⟩
def spOf (K : PySem.W.Frag) : Sp := fun vs H Q _ => ∃ (b l : Addr) (t : V) (xs : List V), vs = [.ref b, t] ∧ Bag H b l ∧
  ((∃ a, t = .ref a ∧ a ≠ b ∧ SqL K H a xs) ∨ (∃ z : Str, t = .str z ∧ z.length ≤ sizeLine ∧ xs = z.cps.toList.map sig)) ∧ 0 < xs.length ∧ xs.length < 1073741824 ∧ ∀ H' x, Kp b H H' → Bag H' b l → x ∈ xs → Q x H'
def spMixed (K : PySem.W.Frag) : Sp := fun vs H Q _ => ∃ (b l a : Addr) (xs : List V), vs = [.ref b, .ref a] ∧ Bag H b l ∧ a ≠ b ∧ SqL K H a xs ∧ xs.length ≤ 1000 ∧
  ∀ H' p ys, Kp b H H' → Bag H' b l → H p = none → H' p = some (.lst ys) → ys.Perm xs → Q (.ref p) H'
theorem erasePm {α : Type} : ∀ (l : List α) (i : Nat) (h : i < l.length), (l[i] :: l.eraseIdx i).Perm l
  | [], i, h => absurd h (Nat.not_lt_zero _)
  | x :: r, 0, h => .refl _
  | x :: r, i + 1, h => by
    have hr : i < r.length := Nat.lt_of_succ_lt_succ h
    show (r[i] :: x :: r.eraseIdx i).Perm (x :: r)
    exact (List.Perm.swap x _ _).trans ((erasePm r i hr).cons x)
theorem ifF {c : Bool} {A B : Prop} (h : c = false) (hb : B) : if c = true then A else B := by rw [h]; exact iteF hb
theorem ifT {c : Bool} {A B : Prop} (h : c = true) (ha : A) : if c = true then A else B := by rw [h]; exact iteT ha




/-! ### texts as lists of signs -/
def txt (cs : List Nat) : Str := ⟨cs.toArray⟩
theorem txt_len (cs : List Nat) : (txt cs).length = cs.length := by show cs.toArray.size = _; simp
theorem txt_cps (cs : List Nat) : (txt cs).cps.toList = cs := by show cs.toArray.toList = _; simp
theorem txt_of (z : Str) : txt z.cps.toList = z := by show (⟨z.cps.toList.toArray⟩ : Str) = z; simp
theorem txt_app (a b : List Nat) : txt a ++ txt b = txt (a ++ b) := by
  show (⟨a.toArray ++ b.toArray⟩ : Str) = ⟨(a ++ b).toArray⟩
  simp
theorem txt_inj {a b : List Nat} (h : txt a = txt b) : a = b := by rw [← txt_cps a, ← txt_cps b, h]
theorem txt_minus : Str.ofString "-" = txt [45] := by decide +kernel
theorem txt_empty : Str.ofString "" = txt [] := by decide +kernel
theorem sig_txt (c : Nat) : sig c = .str (txt [c]) := rfl
def lettersL : List Nat → List Nat
  | [] => []
  | c :: r => if c = 45 then r else c :: r
def signL : List Nat → Nat
  | [] => 0
  | c :: r => if c = 45 then 1 else 0
def signedL (t : Int) (cs : List Nat) : List Nat := if t % 2 = 1 then 45 :: cs else cs
theorem letters_len (ts : List Nat) : (lettersL ts).length + signL ts = ts.length := by
  cases ts with
  | nil => rfl
  | cons c r =>
    show (if c = 45 then r else c :: r).length + (if c = 45 then 1 else 0) = r.length + 1
    by_cases h : c = 45
    · rw [if_pos h, if_pos h]
    · rw [if_neg h, if_neg h, List.length_cons]
theorem remove_minus (ts : List Nat) : Txt.removeprefix (txt ts) (Str.ofString "-") = txt (lettersL ts) := by
  rw [txt_minus]
  unfold Txt.removeprefix
  cases ts with
  | nil => rfl
  | cons c r =>
    have e : Builtin.Str.subAt (txt (c :: r)) (txt [45]) 0 = decide (c = 45) := by
      unfold Builtin.Str.subAt
      show ((c :: r).toArray.extract 0 (0 + 1) == #[45]) = _
      have e2 : (c :: r).toArray.extract 0 (0 + 1) = #[c] := by simp
      rw [e2]
      by_cases h : c = 45
      · subst h; rfl
      · rw [decide_eq_false h]
        simp [h]
    rw [e]
    show _ = txt (if c = 45 then r else c :: r)
    by_cases h : c = 45
    · rw [decide_eq_true h, if_pos rfl, if_pos h]
      unfold Txt.affix
      have e3 : ((txt (c :: r)).length - (txt [45]).length == (txt (c :: r)).length) = false := by
        rw [txt_len, txt_len]
        simp
      show (if ((txt (c :: r)).length - (txt [45]).length == (txt (c :: r)).length) = true then _ else _) = _
      rw [e3, if_neg Bool.false_ne_true]
      show (⟨(c :: r).toArray.extract 1 (c :: r).toArray.size⟩ : Str) = ⟨r.toArray⟩
      simp
    · rw [decide_eq_false h, if_neg Bool.false_ne_true, if_neg h]
      rfl
theorem join_txt : ∀ (xs : List (List Nat)), Txt.join (Str.ofString "") (xs.map txt) = txt xs.flatten := by
  intro xs
  show Builtin.Str.glued _ _ = _
  rw [StrLaws.glued_eq_join, txt_empty]
  induction xs with
  | nil => rfl
  | cons x r ih =>
    cases r with
    | nil => show txt x = txt (x ++ []); rw [List.append_nil]
    | cons y r =>
      show txt x ++ txt [] ++ Str.join (txt []) ((y :: r).map txt) = _
      rw [ih, txt_app, txt_app, List.append_nil]
      rfl
theorem flat_ones (cs : List Nat) : (cs.map fun c => [c]).flatten = cs := by
  induction cs with
  | nil => rfl
  | cons c r ih => show c :: (r.map fun c => [c]).flatten = _; rw [ih]
theorem join_sigs (cs : List Nat) : Txt.join (Str.ofString "") (cs.map fun c => txt [c]) = txt cs := by
  have e : (cs.map fun c => txt [c]) = (cs.map fun c => [c]).map txt := by rw [List.map_map]; rfl
  rw [e, join_txt, flat_ones]
theorem len_ones (cs : List Nat) : ((cs.map fun c => txt [c]).map (·.length)).sum = cs.length := by
  induction cs with
  | nil => rfl
  | cons c r ih =>
    show (txt [c]).length + ((r.map fun c => txt [c]).map (·.length)).sum = _
    rw [ih, txt_len, List.length_cons]
    simp [Nat.add_comm]
/-- a word: its sign, its letters (none is the sign) -/
def wd (s : Bool) (cs : List Nat) : List Nat := if s then 45 :: cs else cs
def Lt (cs : List Nat) : Prop := ∀ c ∈ cs, c ≠ 45
theorem letters_wd {s : Bool} {cs : List Nat} (h : Lt cs) : lettersL (wd s cs) = cs := by
  cases s with
  | true => rfl
  | false =>
    cases cs with
    | nil => rfl
    | cons c r =>
      show (if c = 45 then r else c :: r) = c :: r
      rw [if_neg (h c List.mem_cons_self)]
theorem sign_wd {s : Bool} {cs : List Nat} (h : Lt cs) : signL (wd s cs) = s.toNat := by
  cases s with
  | true => rfl
  | false =>
    cases cs with
    | nil => rfl
    | cons c r =>
      show (if c = 45 then 1 else 0) = 0
      rw [if_neg (h c List.mem_cons_self)]
theorem signed_wd (t : Int) (cs : List Nat) : signedL t cs = wd (decide (t % 2 = 1)) cs := by
  unfold signedL wd
  by_cases h : t % 2 = 1
  · rw [if_pos h, decide_eq_true h]; rfl
  · rw [if_neg h, decide_eq_false h]; rfl
theorem wd_len (s : Bool) (cs : List Nat) : (wd s cs).length = cs.length + s.toNat := by cases s <;> rfl
def spLetters : Sp := fun vs H Q _ => ∃ ts : List Nat, vs = [.str (txt ts)] ∧ ts.length ≤ sizeLine ∧ Q (.str (txt (lettersL ts))) H
def spSignOf : Sp := fun vs H Q _ => ∃ ts : List Nat, vs = [.str (txt ts)] ∧ ts.length ≤ sizeLine ∧ Q (.int (signL ts)) H
def spSigned : Sp := fun vs H Q _ => ∃ (t : Int) (cs : List Nat), vs = [.int t, .str (txt cs)] ∧ cs.length < sizeLine ∧ Q (.str (txt (signedL t cs))) H

/-! ### cancelling -/
def stp (rs : List Nat) (c : Nat) : List Nat := match rs with
  | [] => [c]
  | d :: r => if d = c then r else c :: d :: r
def noAdj : List Nat → Prop
  | a :: b :: r => a ≠ b ∧ noAdj (b :: r)
  | _ => True
theorem noAdj.tail {a : Nat} {r : List Nat} (h : noAdj (a :: r)) : noAdj r := by
  cases r with
  | nil => trivial
  | cons b r => exact h.2
theorem stp_noAdj {rs : List Nat} (c : Nat) (h : noAdj rs) : noAdj (stp rs c) := by
  cases rs with
  | nil => trivial
  | cons d r =>
    unfold stp
    dsimp only
    by_cases e : d = c
    · rw [if_pos e]; exact h.tail
    · rw [if_neg e]; exact ⟨fun z => e z.symm, h⟩
theorem stp_stp {rs : List Nat} (c : Nat) (h : noAdj rs) : stp (stp rs c) c = rs := by
  cases rs with
  | nil => show (if c = c then [] else _) = _; rw [if_pos rfl]
  | cons d r =>
    by_cases e : d = c
    · subst e
      have e1 : stp (d :: r) d = r := if_pos rfl
      rw [e1]
      cases r with
      | nil => rfl
      | cons b r =>
        show (if b = d then r else d :: b :: r) = _
        rw [if_neg (fun z => h.1 z.symm)]
    · have e1 : stp (d :: r) c = c :: d :: r := if_neg e
      rw [e1]
      show (if c = c then d :: r else _) = _
      rw [if_pos rfl]
def redR (cs : List Nat) : List Nat := cs.foldl stp []
def redL (cs : List Nat) : List Nat := (redR cs).reverse
theorem fold_noAdj : ∀ (cs rs : List Nat), noAdj rs → noAdj (cs.foldl stp rs)
  | [], _, h => h
  | c :: r, rs, h => fold_noAdj r (stp rs c) (stp_noAdj c h)
theorem redR_snoc (cs : List Nat) (c : Nat) : redR (cs ++ [c]) = stp (redR cs) c := by
  unfold redR
  rw [List.foldl_append]
  rfl
theorem red_cancel (a b : List Nat) (c : Nat) : redL (a ++ c :: c :: b) = redL (a ++ b) := by
  unfold redL redR
  rw [List.foldl_append, List.foldl_append]
  show (b.foldl stp (stp (stp (a.foldl stp []) c) c)).reverse = _
  rw [stp_stp c (fold_noAdj a [] trivial)]
theorem stp_mem {rs : List Nat} {c x : Nat} (h : x ∈ stp rs c) : x = c ∨ x ∈ rs := by
  cases rs with
  | nil => exact .inl (List.mem_singleton.mp h)
  | cons d r =>
    by_cases e : d = c
    · have e1 : stp (d :: r) c = r := if_pos e
      rw [e1] at h
      exact .inr (List.mem_cons_of_mem _ h)
    · have e1 : stp (d :: r) c = c :: d :: r := if_neg e
      rw [e1] at h
      exact (List.mem_cons.mp h)
theorem stp_len (rs : List Nat) (c : Nat) : (stp rs c).length ≤ rs.length + 1 := by
  cases rs with
  | nil => exact Nat.le_refl _
  | cons d r =>
    by_cases e : d = c
    · have e1 : stp (d :: r) c = r := if_pos e
      rw [e1, List.length_cons]; omega
    · have e1 : stp (d :: r) c = c :: d :: r := if_neg e
      rw [e1]; exact Nat.le_refl _
def still (cs : List Nat) : Prop := ∀ (i : Nat) (a b : Nat), cs[i]? = some a → cs[i + 1]? = some b → a ≠ b
theorem redR_take {cs : List Nat} (h : still cs) : ∀ k, k ≤ cs.length → redR (cs.take k) = (cs.take k).reverse
  | 0, _ => rfl
  | k + 1, hk => by
    have hk1 : k < cs.length := hk
    rw [List.take_succ_eq_append_getElem hk1, redR_snoc, redR_take h k (by omega), List.reverse_append]
    cases k with
    | zero => rfl
    | succ j =>
      have hj : j < cs.length := by omega
      rw [List.take_succ_eq_append_getElem hj, List.reverse_append]
      show (if cs[j] = cs[j + 1] then _ else cs[j + 1] :: cs[j] :: (cs.take j).reverse) = cs[j + 1] :: cs[j] :: (cs.take j).reverse
      rw [if_neg (h j _ _ (List.getElem?_eq_getElem hj) (List.getElem?_eq_getElem hk1))]
theorem red_still {cs : List Nat} (h : still cs) : redL cs = cs := by
  have e := redR_take h cs.length (Nat.le_refl _)
  rw [List.take_length] at e
  unfold redL
  rw [e, List.reverse_reverse]
theorem redR_len (cs : List Nat) : (redR cs).length ≤ cs.length := by
  have : ∀ (cs rs : List Nat), (cs.foldl stp rs).length ≤ rs.length + cs.length := by
    intro cs
    induction cs with
    | nil => intro rs; exact Nat.le_refl _
    | cons c r ih =>
      intro rs
      have h1 := ih (stp rs c)
      have h2 := stp_len rs c
      show (r.foldl stp (stp rs c)).length ≤ rs.length + (r.length + 1)
      omega
  have h := this cs []
  rw [List.length_nil, Nat.zero_add] at h
  exact h
def spReduced : Sp := fun vs H Q _ => ∃ ts : List Nat, vs = [.str (txt ts)] ∧ ts.length ≤ 1000 ∧ ∀ H', Same H H' → Q (.str (txt (signedL (signL ts) (redL (lettersL ts))))) H'

/-! ### slices of texts; lists of ints as data -/
theorem cutS_take (cs : List Nat) (k : Nat) : cutS (txt cs) none (some (k : Int)) = txt (cs.take k) := by
  unfold cutS
  rw [txt_cps, HT.sIx_none, HT.sIx_nat, txt_len]
  show txt _ = txt _
  congr 1
  rw [List.drop_zero, Nat.sub_zero]
  by_cases h : k ≤ cs.length
  · rw [Nat.min_eq_left h]
  · rw [Nat.min_eq_right (by omega), List.take_length, List.take_of_length_le (by omega)]
theorem cutS_drop (cs : List Nat) (k : Nat) : cutS (txt cs) (some (k : Int)) none = txt (cs.drop k) := by
  unfold cutS
  rw [txt_cps, HT.sIx_none, HT.sIx_nat, txt_len]
  show txt _ = txt _
  congr 1
  by_cases h : k ≤ cs.length
  · rw [Nat.min_eq_left h]
    exact List.take_of_length_le (by rw [List.length_drop]; exact Nat.le_refl _)
  · rw [Nat.min_eq_right (by omega), List.drop_of_length_le (Nat.le_refl _), List.drop_of_length_le (l := cs) (by omega)]
    exact List.take_nil
theorem cutV_take (xs : List V) (k : Nat) : cutV xs none (some (k : Int)) = xs.take k := by
  unfold cutV
  rw [HT.sIx_none, HT.sIx_nat, List.drop_zero, Nat.sub_zero]
  by_cases h : k ≤ xs.length
  · rw [Nat.min_eq_left h]
  · rw [Nat.min_eq_right (by omega), List.take_length, List.take_of_length_le (by omega)]
theorem dp_ints {K : PySem.W.Frag} {H : Hp} : ∀ ns : List Int, DpAll K H (ns.map V.int) (ns.map PyData.int)
  | [] => .nil
  | n :: r => .cons (.int n) (dp_ints r)
theorem shaped_ints' (ns : List Int) : SeqAt.shaped (.list (ns.map PyData.int)) = true := PySem.W.ke_shaped_ints ns
theorem signed_wd0 {s : Bool} (cs : List Nat) : signedL ((s.toNat : Nat) : Int) cs = wd s cs := by cases s <;> rfl
def spLSigned : Sp := spSigned
def spLets : Sp := fun vs H Q _ => vs = [] ∧ Q (.str (Str.ofString "abcdefghijklmnopqrstuvwx")) H
def alpha : List Nat := [97, 98, 99, 100, 101, 102, 103, 104, 105, 106, 107, 108, 109, 110, 111, 112, 113, 114, 115, 116, 117, 118, 119, 120]
theorem txt_alpha : Str.ofString "abcdefghijklmnopqrstuvwx" = txt alpha := by decide +kernel
theorem alpha_lt {c : Nat} (h : c ∈ alpha) : c ≠ 45 := by
  intro e
  subst e
  exact absurd h (by decide)
theorem perm_sigs {ys : List V} {cs : List Nat} (h : ys.Perm (cs.map sig)) : ∃ ds : List Nat, ys = ds.map sig ∧ ds.Perm cs := by
  refine ⟨ys.map (fun v => match v with | .str z => z.cps.toList.headD 0 | _ => 0), ?_, ?_⟩
  · rw [List.map_map]
    have : ∀ y ∈ ys, (sig ∘ fun v => match v with | .str z => z.cps.toList.headD 0 | _ => 0) y = y := by
      intro y hy
      obtain ⟨c, _, rfl⟩ := List.mem_map.mp (h.mem_iff.mp hy)
      rfl
    rw [List.map_congr_left this, List.map_id']
  · have h2 := h.map (fun v => match v with | .str z => z.cps.toList.headD 0 | _ => 0)
    rw [List.map_map] at h2
    have e : ((fun v => match v with | V.str z => z.cps.toList.headD 0 | _ => 0) ∘ sig) = id := by funext c; rfl
    rw [e, List.map_id] at h2
    exact h2
def spLaw (K : PySem.W.Frag) : Sp := fun vs H Q _ => ∃ (a : Addr) (ns : List Int), vs = [.ref a] ∧ SqL K H a (ns.map V.int) ∧ ns.length ≤ 63 ∧ ∀ H', Q (.bl true) H'
end Tm

/-! zip of two texts, walked in pairs -/
namespace Tm
open PySem PySem.Spec PyProof.Rows L2
/-- the pairs of the signs of two texts; each pair is a new tuple -/
def ItzS (cs ds : List Nat) : It :=
  ⟨fun i _ => i < min cs.length ds.length, fun i H x H' => ∃ T c d, x = .ref T ∧ H T = none ∧ H' = upd H T (.tup [sig c, sig d]) ∧ cs[i]? = some c ∧ ds[i]? = some d, fun i _ => i = min cs.length ds.length⟩
def iZipS (ta : TA) : TI := fun σ H R => ta σ H fun vs H1 => ∃ cs ds : List Nat, vs = [.str (txt cs), .str (txt ds)] ∧ R (ItzS cs ds) H1
/-- the cells in which a zip of two texts stands at turn i -/
def zipAt (N : Addr) (x y : Str) (t u : Tok) (i : Nat) (h : Heap) : Prop :=
  IsZip h (N + 4) (N + 2) (N + 3) .none ∧ IsTupOf2 h (N + 2) (.ref N) (.ref (N + 1)) ∧ (∃ a b, IsTupOf2 h (N + 3) a b) ∧ h.IsStrIter N (strIterType x) x t i ∧ h.IsStrIter (N + 1) (strIterType y) y u i
def zipCells (N : Addr) : List Addr := [N + 4, N + 2, N + 3, N, N + 1]
theorem zip_goes {prog : Program} {w : World} {A : Around} (hh : A.handled = none) (elts : List Expr) (k : Nat) (pos : Pos) (N : Addr) (x y : Str) (t u : Tok) :
    GoesN prog w A (.Tuple elts k pos) (N + 4) (zipCells N) [N + 4, N + 3, N, N + 1] (min x.cps.size y.cps.size)
      (fun i h₀ v h => ∃ T a b, v = .ref T ∧ h₀.objs.size ≤ T ∧ SignAt x i a ∧ SignAt y i b ∧ h.IsTuple T #[a, b]) (zipAt N x y t u) :=
  GoesN.zip2 (zip_sep2 (fp1 := []) (fp2 := []) (fun _ h => by cases h) (fun _ h => by cases h)) (Draws.text (A := A.in1) hh N x t) (Draws.text (A := A.in1) hh (N + 1) y u)
theorem at_txt {cs : List Nat} {i c : Nat} (h : (txt cs).cps[i]? = some c) : cs[i]? = some c := by
  have e : (txt cs).cps[i]? = cs[i]? := List.getElem?_toArray ..
  rw [← e]; exact h
theorem size_txt (cs : List Nat) : (txt cs).cps.size = cs.length := List.size_toArray
theorem zip_obj {N : Addr} {x y : Str} {t u : Tok} {i : Nat} {h : Heap} (st : zipAt N x y t u i h) : ∀ q ∈ zipCells N, ∃ o, h.get? q = some o ∧ ∀ v, o.data ≠ .cell v := by
  rcases st with ⟨z, ti, ⟨a, b, to⟩, ⟨o1, g1, c1, d1⟩, ⟨o2, g2, c2, d2⟩⟩
  intro q hq
  simp only [zipCells, List.mem_cons, List.not_mem_nil, or_false] at hq
  rcases hq with rfl | rfl | rfl | rfl | rfl
  · exact ⟨_, z, fun v e => by cases e⟩
  · exact ⟨_, ti, fun v e => by cases e⟩
  · exact ⟨_, to, fun v e => by cases e⟩
  · exact ⟨o1, g1, fun v e => by rw [d1] at e; cases e⟩
  · exact ⟨o2, g2, fun v e => by rw [d2] at e; cases e⟩
theorem zip_turn (P : Program) (w : World) (K : PySem.W.Frag) (elts : List Expr) (k : Nat) (pos : Pos) (N : Addr) (cs ds : List Nat) (t u : Tok) :
    Turn P w K (.Tuple elts k pos) (ItzS cs ds) (zipCells N) (N + 4) (zipAt N (txt cs) (txt ds) t u) where
  mem := List.mem_cons_self ..
  obj := fun i h st => zip_obj st
  keep := by
    rintro i h h' ⟨z, ti, ⟨a, b, to⟩, ⟨o1, g1, r1⟩, ⟨o2, g2, r2⟩⟩ same
    have on : ∀ q ∈ zipCells N, ∀ o, h.get? q = some o → h'.get? q = some o := same
    exact ⟨on _ (by simp [zipCells]) _ z, on _ (by simp [zipCells]) _ ti, ⟨a, b, on _ (by simp [zipCells]) _ to⟩, ⟨o1, on _ (by simp [zipCells]) _ g1, r1⟩, ⟨o2, on _ (by simp [zipCells]) _ g2, r2⟩⟩
  item := by
    intro X ep ew eK calm i pins s σ H E inv own st go
    subst ep ew eK
    have G := zip_goes (prog := X.prog) (w := X.w) (inv.ok.hd calm) elts k pos N (txt cs) (txt ds) t u
    refine G.goes i s (fun v s2 => ∃ x H', Inv X pins σ H' s2 ∧ RelV x v ∧ (ItzS cs ds).yld i H x H' ∧ zipAt N (txt cs) (txt ds) t u (i + 1) s2.heap ∧ ∀ b ∈ zipCells N, H' b = none) E (by rw [size_txt, size_txt]; exact go) st ?_
    rintro v h' tk ⟨T, a, b, rfl, new, ⟨c, ta, hc, rfl⟩, ⟨d, tb, hd, rfl⟩, tup⟩ st' kept _
    have inside : ∀ q ∈ [N + 4, N + 3, N, N + 1], FpOk X pins H q := fun q hq => own q (G.sub q hq)
    have fresh : H T = none := inv.hok.fresh new
    have laid : ObjOk X.prog X.w (upd H T (.tup [sig c, sig d])) h' T (.tup [sig c, sig d]) :=
      ⟨by show 2 ≤ sizeLine; decide, [.str ⟨#[c]⟩ ta, .str ⟨#[d]⟩ tb], .cons ⟨ta, rfl⟩ (.cons ⟨tb, rfl⟩ .nil), tup⟩
    refine ⟨.ref T, _, inv.turnedNew kept inside new laid, rfl, ⟨T, c, d, rfl, fresh, rfl, at_txt hc, at_txt hd⟩, st', fun q hq => ?_⟩
    rw [upd_ne (fun e => ?_)]
    · exact (own q hq).1
    · obtain ⟨ob, there, _⟩ := zip_obj st q hq
      exact absurd (Nat.lt_of_lt_of_le (Heap.lt_size there) (e ▸ new)) (Nat.lt_irrefl _)
  done := by
    intro X ep ew eK calm i pins s σ H E inv own st stop
    subst ep ew eK
    have G := zip_goes (prog := X.prog) (w := X.w) (inv.ok.hd calm) elts k pos N (txt cs) (txt ds) t u
    have e : i = min (txt cs).cps.size (txt ds).cps.size := by rw [size_txt, size_txt]; exact stop
    subst e
    refine G.stops s (Inv X pins σ H) E st fun h' tk kept _ => ?_
    exact inv.turnedL kept fun q hq => own q (G.sub q hq)
  self := fun _ _ _ _ _ st done => wpAny_pyIter_zip st.1 done
theorem pi_zipS {X : Cx} {e e2 : Expr} {ta : TA} {p pos tpos : Pos} {elts : List Expr} {kk : Nat} (glob : Gl X "zip") (free : X.mg "zip" = none) (args : PA X [e, e2] ta)
    (first : starEach [e, e2] X.env = (false, eval e X.env) :: starEach [e2] X.env := by rfl) (plain : (backTo pos (starEach [e2] X.env)).any (·.1) = false := by rfl) :
    PI X (.Tuple elts kk tpos) (.Call (.Name "zip" p) [e, e2] [] pos) (iZipS ta) where
  run pins s σ H R inv ask := by
    apply wpAny_Call_Name_kw
    apply ld_blt inv glob free PyProof.Rows.boot_zip
    apply PyProof.Rows.callWith_type1 _ first plain
    apply wpAny_mono (args.run pos pins s σ H _ inv ask) _ (fun _ _ raised => raised)
    rintro held s1 ⟨given, H1, inv1, rel, cs, ds, rfl, hand⟩
    match held, rel with
    | [_, _], .cons ⟨t1, rfl⟩ (.cons ⟨t2, rfl⟩ .nil) =>
      apply zip_begins2 (begins_text _ _) (begins_text _ _) trivial trivial
      intro heap hz hi ho g1 g2 size kept
      apply wpAny_pyIter_zip hz
      have inv2 : Inv X pins σ H1 { s1 with heap := heap } := inv1.kept (t' := s1.toks) kept
      refine ⟨_, zipCells s1.heap.objs.size, zipAt s1.heap.objs.size (txt cs) (txt ds) t1 t2, ItzS cs ds, H1, rfl, inv2, zip_turn _ _ _ _ _ _ _ _ _ _ _, ⟨hz, hi, ⟨_, _, ho⟩, ⟨_, g1, rfl, rfl⟩, ⟨_, g2, rfl, rfl⟩⟩, fun q hq => ?_, hand⟩
      have above : s1.heap.objs.size ≤ q := by
        simp only [zipCells, List.mem_cons, List.not_mem_nil, or_false] at hq
        have up : ∀ n : Nat, (s1.heap.objs.size : Nat) ≤ s1.heap.objs.size + n := fun n => Nat.le_add_right _ _
        rcases hq with rfl | rfl | rfl | rfl | rfl
        · exact up 4
        · exact up 2
        · exact up 3
        · exact up 0
        · exact up 1
      have low := inv1.fpOk (H' := H1) above (inv1.hok.fresh above)
      exact low
theorem walk_zipS {cs ds : List Nat} : Walk (ItzS cs ds) (min cs.length ds.length) (fun _ => True) (fun i H x H' => ∃ T c d, x = .ref T ∧ H T = none ∧ H' = upd H T (.tup [sig c, sig d]) ∧ cs[i]? = some c ∧ ds[i]? = some d) where
  goes := fun _ _ lt _ => lt
  stops := fun _ _ => rfl
  yields := fun _ _ _ _ _ _ y => y
end Tm

/-! a set comprehension whose elements are ints; its length -/
namespace Tm
open PySem PySem.Spec PyProof.Rows L2
/-- {elt for target in iter}: D is the new set; W holds ahead of each turn, by the turn and a number that falls; Nx is what a turn reaches -/
def tSetI (w : World) (wi : TI) (g : TG) (te : TE) (vs : List Nat) : TE := fun σ H Q => wi σ H fun J H1 => ∀ D, H1 D = none → ∃ W : Nat → Nat → Hp → Prop, (∃ m, W 0 m (upd H1 D (SetO w D (fun _ => false) 0))) ∧
  ∀ i m H, W i m H → (J.stop i H ∧ Q (.ref D) H) ∨ (J.go i H ∧ ∃ Nx : Hp → Prop, (∀ H', Nx H' → ∃ m', m' < m ∧ W (i + 1) m' H') ∧
    ∀ x H', J.yld i H x H' → g x (wipe σ vs) H' fun σ2 H2 => wipe σ2 vs = wipe σ vs ∧ te σ2 H2 fun y H3 => ∃ (k : Int) (S : Int → Bool) (n : Nat), y = .int k ∧ H3 D = some (SetO w D S n) ∧ n + 1 < scanBound ∧
      Nx (upd H3 D (SetO w D (fun j => S j || decide (j = k)) (if S k = true then n else n + 1))))
/-- the slots of the block's own names matter to nobody -/
theorem wipe_weak {X : Cx} {pins : List (Addr × Obj)} {σ : L2.St} {H : Hp} {s : Shared} {vs : List Nat} (I : Inv X pins σ H s) : Inv X pins (wipe σ vs) H s :=
  I.weak (wipe_length σ vs) fun i v h => (wipe_some h).1
theorem set_block {X : Cx} {pins : List (Addr × Obj)} {σ : L2.St} {Hs : Hp} {s3 : Shared} {Q : VK} {elt tg iter : Expr} {scope : Scope} {own : List (PySem.Str × Nat)} {pos : Pos} {g : TG} {te : TE} {J : It} {fp : List Addr} {it D : Addr} {tn : Nat → Heap → Prop} {W : Nat → Nat → Hp → Prop} {m0 : Nat}
    (calm : X.calm = true) (nodup : X.N.Nodup) (ok : BlkOk X.N X.env.scope scope own)
    (goal : ∀ (s : Shared) (H : Hp) (C : Addr) (cl : List (PySem.Str × Addr)) (fp : List Addr), PG (X.blk s H scope (compEnvC scope cl C X.env) fp) tg g)
    (elem : ∀ (s : Shared) (H : Hp) (C : Addr) (cl : List (PySem.Str × Addr)) (fp : List Addr), PE (X.blk s H scope (compEnvC scope cl C X.env) fp) elt te)
    (inv3 : Inv X pins σ Hs s3) (turns : Turn X.prog X.w X.K tg J fp it tn) (start : tn 0 s3.heap) (mine : ∀ b ∈ fp, FpOk X pins Hs b) (w0 : W 0 m0 Hs)
    (step : ∀ i m H, W i m H → (J.stop i H ∧ Q (.ref D) H) ∨ (J.go i H ∧ ∃ Nx : Hp → Prop, (∀ H', Nx H' → ∃ m', m' < m ∧ W (i + 1) m' H') ∧
      ∀ x H', J.yld i H x H' → g x (wipe σ (own.map (·.2))) H' fun σ2 H2 => wipe σ2 (own.map (·.2)) = wipe σ (own.map (·.2)) ∧ te σ2 H2 fun y H3 => ∃ (k : Int) (S : Int → Bool) (n : Nat), y = .int k ∧ H3 D = some (SetO X.w D S n) ∧ n + 1 < scanBound ∧
        Nx (upd H3 D (SetO X.w D (fun j => S j || decide (j = k)) (if S k = true then n else n + 1))))) :
    wpAny (model X.prog X.w) X.A (newFunctionEnv scope X.env.globals (cloFrom X.env.cells scope.names []) [] X.env.qual none .none (some X.env)) (fun cenv s4 =>
      codeAny (model X.prog X.w) X.A (.compStart (.SetComp elt [⟨tg, iter, [], 0⟩] scope pos) 0 (.ref it) (.ref D) { cenv with scope := relabel scope X.env }) (compEnds (model X.prog X.w) X.A X.xe none (EP X pins σ Q) (.ref D) { cenv with scope := relabel scope X.env }) s4) X.xe s3 := by
  have born : ∀ b ∈ fp, b < s3.heap.objs.size := fun b hb => by
    obtain ⟨o, there, _⟩ := turns.obj 0 _ start b hb
    exact Heap.lt_size there
  have inv4 := block_start (fp := fp) inv3 ok nodup fun b hb => ⟨mine b hb, born b hb⟩
  apply newEnv_comp
  have start4 : tn 0 (pushCells (s3.heap.push { cls := .type "dict", data := .dict #[] }) scope.names) := turns.keep 0 _ _ start fun b _ o there => pushCells_keeps _ _ _ _ (Heap.get?_push_of_some _ there)
  have low := inv3.fpOk (H' := Hs) (b := s3.heap.objs.size) (Nat.le_refl _) (inv3.hok.fresh (Nat.le_refl _))
  generalize pushCells (s3.heap.push { cls := .type "dict", data := .dict #[] }) scope.names = h4 at inv4 start4 ⊢
  show codeAny _ _ (.compStart _ 0 _ _ (compEnvC scope (cellsFrom (s3.heap.objs.size + 1) scope.names (cloFrom X.env.cells scope.names [])) s3.heap.objs.size X.env)) (compEnds _ _ _ none _ _ (compEnvC scope (cellsFrom (s3.heap.objs.size + 1) scope.names (cloFrom X.env.cells scope.names [])) s3.heap.objs.size X.env)) _
  generalize cellsFrom (s3.heap.objs.size + 1) scope.names (cloFrom X.env.cells scope.names []) = cl at inv4 ⊢
  have loop : codeAny (model X.prog X.w) X.A (.compLoop (.SetComp elt [⟨tg, iter, [], 0⟩] scope pos) 0 (.ref it) (.ref D) (compEnvC scope cl s3.heap.objs.size X.env)) (compEnds (model X.prog X.w) X.A X.xe none (EP X pins σ Q) (.ref D) (compEnvC scope cl s3.heap.objs.size X.env)) { s3 with heap := h4 } := by
    apply PpSet.compLoopS_any (I := fun n s => ∃ i Hc, Inv (X.blk s3 Hs scope (compEnvC scope cl s3.heap.objs.size X.env) fp) [] (wipe σ (own.map (·.2))) Hc s ∧ tn i s.heap ∧ (∀ b ∈ fp, Hc b = none) ∧ W i n Hc) _ m0 ⟨0, Hs, inv4, start4, fun b hb => (mine b hb).1, w0⟩
    rintro n s5 ⟨i, Hc, inv5, st5, free5, w5⟩
    have own5 : ∀ (H : Hp), (∀ b ∈ fp, H b = none) → ∀ b ∈ fp, FpOk (X.blk s3 Hs scope (compEnvC scope cl s3.heap.objs.size X.env) fp) [] H b := fun H free b hb =>
      ⟨free b hb, (inv5.ok.exf b hb).1, inv5.ok.exfs b hb, .inl hb, (inv5.ok.exf b hb).2, fun p hp => by cases hp⟩
    rcases step i n Hc w5 with ⟨stop, q⟩ | ⟨go, Nx, next, yields⟩
    · apply wpAny_mono (turns.done (X.blk s3 Hs scope (compEnvC scope cl s3.heap.objs.size X.env) fp) rfl rfl rfl calm i [] s5 _ Hc _ inv5 (own5 Hc free5) st5 stop) _ (fun _ _ raised => raised)
      rintro r s6 ⟨rfl, inv6⟩
      obtain ⟨names, ns, _⟩ := inv6.loc
      refine ⟨names, ns, fun h' same => ?_⟩
      have out : Inv X pins σ Hc s6 := inv3.call' inv6.os inv6.base inv6.hok inv6.bare fun b hb => ⟨(mine b hb).2.2.2.1, (mine b hb).2.1, (mine b hb).2.2.2.2.1, (mine b hb).2.2.2.2.2⟩
      exact ⟨.ref D, Hc, out.turned (t' := s6.toks) (fun b o hb there => (same.2 b hb).trans there) inv6.free low.2.1 low.2.2.2.1 low.2.2.2.2.1 low.2.2.2.2.2, rfl, q⟩
    · apply wpAny_mono (turns.item (X.blk s3 Hs scope (compEnvC scope cl s3.heap.objs.size X.env) fp) rfl rfl rfl calm i [] s5 _ Hc _ inv5 (own5 Hc free5) st5 go) _ (fun _ _ raised => raised)
      rintro r s6 ⟨u, rfl, rest⟩
      apply wpAny_mono rest _ (fun _ _ raised => raised)
      rintro _ s7 ⟨x, H7, inv7, rel, yld, st7, free7⟩
      have held := inv7.pinned (own5 H7 free7) (turns.obj _ _ st7)
      apply wpAny_mono ((goal s3 Hs s3.heap.objs.size cl fp).run _ s7 _ H7 x u _ held rel (yields x H7 yld)) _ (fun _ _ raised => raised.elim)
      rintro _ s8 ⟨σ8, H8, inv8, wiped, more⟩
      apply wpAny_tests_nil
      rw [if_pos rfl]
      apply wpAny_mono ((elem s3 Hs s3.heap.objs.size cl fp).run _ s8 σ8 H8 _ inv8 more) _ (fun _ _ raised => raised.elim)
      rintro u9 s9 ⟨y, H9, inv9, rel9, k, S, c, rfl, atD, room, nx⟩
      rcases rel9 with ⟨tok, rfl⟩
      apply setR_add (setO_get inv9 atD) room
      intro h10 same10 set10
      have inv10 := inv9.write (e := D) (h' := h10) (t' := s9.toks + 1) (by rw [atD]; trivial) (.inl rfl) (fun b o hb there => (same10.2 b hb).trans there) (set10.imp fun o r => by obtain ⟨_, _, _, there, _⟩ := r; exact there) (setO_new set10)
      obtain ⟨m1, less, w1⟩ := next _ nx
      refine ⟨m1, less, i + 1, _, ?_, ?_, ?_, w1⟩
      · rw [← wiped]
        exact wipe_weak inv10.unpinned
      · refine turns.keep (i + 1) _ _ st7 fun b hb o there => ?_
        exact (inv10.pin (b, o) (List.mem_append_right _ (List.mem_append_right _ (mem_pinsAt hb there)))).1
      · intro b hb
        obtain ⟨o, there, _⟩ := turns.obj _ _ st7 b hb
        exact (inv10.pin (b, o) (List.mem_append_right _ (List.mem_append_right _ (mem_pinsAt hb there)))).2.1
  exact PpSet.codeAny_compStart_set loop (turns.self _ 0 _ _ _ start4 loop)
theorem pe_setI {X : Cx} {elt tg iter : Expr} {scope : Scope} {own : List (PySem.Str × Nat)} {pos : Pos} {wi : TI} {g : TG} {te : TE} (calm : X.calm = true) (nodup : X.N.Nodup) (walk : PI X tg iter wi) (ok : BlkOk X.N X.env.scope scope own)
    (goal : ∀ (s : Shared) (H : Hp) (C : Addr) (cl : List (PySem.Str × Addr)) (fp : List Addr), PG (X.blk s H scope (compEnvC scope cl C X.env) fp) tg g)
    (elem : ∀ (s : Shared) (H : Hp) (C : Addr) (cl : List (PySem.Str × Addr)) (fp : List Addr), PE (X.blk s H scope (compEnvC scope cl C X.env) fp) elt te)
    (unfolded : ∀ x, foldedSetIterable iter X.env x = pure x := by intro _; rfl) :
    PE X (.SetComp elt [⟨tg, iter, [], 0⟩] scope pos) (tSetI X.w wi g te (own.map (·.2))) where
  run pins s σ H Q inv ask := by
    have caught : ∀ y ∈ scope.names, y.2 = .free → ∃ c, X.env.cells.lookup y.1 = some c := fun y hy free => by
      rcases ok.free y hy free with k | k
      · exact inv.ok.has _ (.inl k)
      · exact inv.ok.has _ (.inr k)
    rw [PySem.arm_eval_SetComp]
    apply comprehension_at (use := none) rfl unfolded (closure_ok caught) ok.kind (fun y hy hl => by rw [ok.uniq y hy, hl])
    apply wpAny_mono (walk.run pins s σ H _ inv ask) _ (fun _ _ raised => raised)
    intro v s1 run1
    apply wpAny_mono run1 _ (fun _ _ raised => raised)
    rintro itv s2 ⟨it, fp, tn, J, H1, rfl, inv2, turns, start, mine, plan⟩
    apply PpSet.newSet_ok
    have freeD : H1 s2.heap.objs.size = none := inv2.hok.fresh (Nat.le_refl _)
    obtain ⟨W, ⟨m0, w0⟩, step⟩ := plan _ freeD
    have inv3 : Inv X pins σ (upd H1 s2.heap.objs.size (SetO X.w s2.heap.objs.size (fun _ => false) 0)) { s2 with heap := s2.heap.push { cls := .type "set", dict := none, data := .set #[] 0 (.fresh 0 0 (!X.w.params.followText "set-order")) } } :=
      inv2.laid (t' := s2.toks) (fun b u e => Heap.get?_push_of_some _ e) (Nat.le_refl _) (setO_new (setR_fresh X.w))
    have stays : ∀ b o, s2.heap.get? b = some o → (s2.heap.push { cls := .type "set", dict := none, data := .set #[] 0 (.fresh 0 0 (!X.w.params.followText "set-order")) }).get? b = some o := fun b o e => Heap.get?_push_of_some _ e
    have born : ∀ b ∈ fp, b < s2.heap.objs.size := fun b hb => by
      obtain ⟨o, there, _⟩ := turns.obj 0 _ start b hb
      exact Heap.lt_size there
    exact set_block calm nodup ok goal elem inv3 turns (turns.keep 0 _ _ start fun b _ o there => stays b o there) (fun b hb => ⟨by rw [upd_ne (Nat.ne_of_lt (born b hb))]; exact (mine b hb).1, (mine b hb).2⟩) w0 step
/-- its walk over a tuple, which stands still meanwhile -/
theorem setI_tup {w : World} {K : PySem.W.Frag} {a : Addr} {xs : List V} {g : TG} {te : TE} {vs : List Nat} {σ : L2.St} {H1 : Hp} {D : Addr} {Qd : Hp → Prop} (Pv : Nat → Hp → Prop) (begin_ : Pv 0 (upd H1 D (SetO w D (fun _ => false) 0)))
    (stands : ∀ i H, i ≤ xs.length → Pv i H → SqT K H a xs)
    (turn : ∀ i x H, xs[i]? = some x → Pv i H → g x (wipe σ vs) H fun σ2 H2 => wipe σ2 vs = wipe σ vs ∧ te σ2 H2 fun y H3 => ∃ (k : Int) (S : Int → Bool) (n : Nat), y = .int k ∧ H3 D = some (SetO w D S n) ∧ n + 1 < scanBound ∧
      Pv (i + 1) (upd H3 D (SetO w D (fun j => S j || decide (j = k)) (if S k = true then n else n + 1))))
    (ends : ∀ H, Pv xs.length H → Qd H) :
    ∃ W : Nat → Nat → Hp → Prop, (∃ m, W 0 m (upd H1 D (SetO w D (fun _ => false) 0))) ∧ ∀ i m H, W i m H → ((Itt K a).stop i H ∧ Qd H) ∨ ((Itt K a).go i H ∧ ∃ Nx : Hp → Prop, (∀ H', Nx H' → ∃ m', m' < m ∧ W (i + 1) m' H') ∧
      ∀ x H', (Itt K a).yld i H x H' → g x (wipe σ vs) H' fun σ2 H2 => wipe σ2 vs = wipe σ vs ∧ te σ2 H2 fun y H3 => ∃ (k : Int) (S : Int → Bool) (n : Nat), y = .int k ∧ H3 D = some (SetO w D S n) ∧ n + 1 < scanBound ∧
        Nx (upd H3 D (SetO w D (fun j => S j || decide (j = k)) (if S k = true then n else n + 1)))) := by
  refine ⟨fun i m H => i + m = xs.length ∧ Pv i H, ⟨xs.length, Nat.zero_add _, begin_⟩, ?_⟩
  rintro i m H ⟨left, here⟩
  have there : SqT K H a xs := stands i H (by omega) here
  cases m with
  | zero =>
    have e : i = xs.length := left
    subst e
    exact .inl ⟨⟨xs, there, Nat.le_refl _⟩, ends H here⟩
  | succ m =>
    have lt : i < xs.length := by omega
    refine .inr ⟨⟨xs, xs[i], there, List.getElem?_eq_getElem lt⟩, Pv (i + 1), fun H' p => ⟨m, Nat.lt_succ_self _, by omega, p⟩, ?_⟩
    rintro x H' ⟨rfl, item⟩
    exact turn i x H' (item xs there) here
/-- len of a set of ints -/
theorem call_lenI {X : Cx} : CallR X (.builtin "len") (fun given H Q => ∃ (a : Addr) (S : Int → Bool) (n : Nat), given = [.ref a] ∧ H a = some (SetO X.w a S n) ∧ n ≤ 1000 ∧ Q (.int (n : Int)) H) :=
  fun pins s σ H given held Q inv rel ask => by
    rcases ask with ⟨a, S, n, rfl, at_a, short, hand⟩
    match held, rel with
    | [_], .cons rfl .nil =>
      obtain ⟨o, es, ep, t, there, exact_, dat, _, _, _, _, fits, rfl, _⟩ := setO_get inv at_a
      apply call_len_set there exact_ dat fits (by omega)
      exact ⟨.int _, H, inv.tok _, ⟨_, rfl⟩, hand⟩
end Tm

/-! a text backwards -/
namespace Tm
open PySem PySem.Spec PyProof.Rows L2
def tBackS (te : TE) : TE := fun σ H Q => te σ H fun v H1 => ∃ cs : List Nat, v = .str (txt cs) ∧ cs.length ≤ sizeLine ∧ Q (.str (txt cs.reverse)) H1
theorem back_txt (cs : List Nat) (u : Tok) : Txt.sliceBy (txt cs) none none (-1, u) = txt cs.reverse := by
  have same : (Txt.sliceBy (txt cs) none none (-1, u)).cps.toList = cs.reverse := by
    rw [step_rev_list]
    apply List.ext_getElem
    · simp [txt_len]
    · intro j hj hk
      have hj2 : j < cs.length := by simpa using hk
      rw [List.getElem_map, List.getElem_range, List.getElem_reverse, txt_len]
      show cs.toArray.getD (cs.length - 1 - j) 0 = _
      rw [Array.getD_eq_getD_getElem?, List.getElem?_toArray, List.getElem?_eq_getElem (by omega)]
      rfl
  rw [← txt_of (Txt.sliceBy (txt cs) none none (-1, u)), same]
theorem text_stays (e : Expr) (z : Str) (t : Tok) (r : Value) : letTemporaryGo e (.str z t) r = pure () := by cases e <;> rfl
theorem pe_back {X : Cx} {e : Expr} {te : TE} {k : Nat} {p1 p2 p3 pos : Pos} (he : PE X e te) :
    PE X (.Subscript e (.Slice none none (some (.UnaryOp .USub (.Constant (.int 1) k p1) p2)) p3) pos) (tBackS te) where
  run pins s σ H Q inv ask := by
    have minus : PE X (.UnaryOp .USub (.Constant (.int 1) k p1) p2) _ := pe_un un_neg pe_int
    apply PyProof.Rows.Subscript_
    apply wpAny_mono (he.run pins s σ H _ inv ask) _ (fun _ _ raised => raised)
    rintro v s1 ⟨x, H1, inv1, rel, cs, rfl, short, hand⟩
    rcases rel with ⟨tok, rfl⟩
    apply wpAny_Slice
    rw [evalPart_none, evalPart_some]
    apply wpAny_pure
    apply wpAny_pure
    apply wpAny_mono (minus.run pins s1 σ H1 (fun y H2 => y = .int (-1) ∧ H2 = H1) inv1 ?ask) _ (fun _ _ raised => raised)
    case ask => exact ⟨_, rfl, rfl, rfl⟩
    rintro v s2 ⟨y, H2, inv2, rel, rfl, rfl⟩
    rcases rel with ⟨unit, rfl⟩
    apply subscriptTail_builtin (T := "str") (typeIs_str _ _ _) F.slot_str_getitem.lookup (ht := text_stays e _ _)
    apply wpAny_getItem_str_slice (l := none) (u := none) (st := some (-1, unit)) ⟨_, Heap.get?_push_size _ rfl, rfl, rfl⟩ rfl
    apply post_val_or_str
    refine ⟨?_, fun tok2 ct => ⟨.str (txt cs.reverse), H2, ?_, ⟨tok2, ?_⟩, hand⟩⟩
    · exact Nat.le_trans (Txt.sliceBy_le (txt cs) none none (-1, unit) (by show (-1 : Int) ≠ 0; decide)) (by rw [txt_len]; exact short)
    · exact inv2.kept (t' := ct) fun b o there => Heap.get?_push_of_some _ there
    · exact congrArg (fun z => Value.str z tok2) (back_txt cs unit)
end Tm

/-! a call by place of a def that takes a star; products of words -/
namespace Tm
open PySem PySem.Spec PyProof.Rows L2
section
variable {X : Cx} {CX : CXT} {k : Nat} {f : Addr} {sp : Sp} {E : XK} {x : Str} {p pos : Pos}
theorem pe_place {e : Expr} {es : List Expr} {ta : TA} (promise : FnR X.prog X.w X.K X.mg X.base CX k f sp) (room : Room k X.A) (kept : PySem.W.keepIn X.K (.ref f) = true) (glob : Gl X x) (found : X.mg x = some (.ref f)) (pass : Passes CX X E) (args : PA X (e :: es) ta)
    (nodebug : (x == ("__debug__" : Str)) = false := by decide) (first : starEach (e :: es) X.env = (false, eval e X.env) :: starEach es X.env := by rfl) (plain : (backTo pos (starEach es X.env)).any (·.1) = false := by rfl) :
    PE X (.Call (.Name x p) (e :: es) [] pos) (fun σ H Q => ta σ H fun given H1 => sp given H1 Q E) where
  run pins s σ H Q inv ask := by
    apply wpAny_Call_Name_kw
    apply ld_glob inv glob found _ nodebug
    apply PySem.W.callWith_K (h₀ := X.base) inv.ok.mod.kin kept _ first plain
    apply wpAny_mono (args.run pos pins s σ H _ inv ask) _ (fun _ _ raised => raised)
    rintro held s1 ⟨given, H1, inv1, rel, meets⟩
    exact ⟨inv1.kIn, wpAny_call (run_fnR promise room pass inv1 rel meets)⟩
theorem pe_place0 (promise : FnR X.prog X.w X.K X.mg X.base CX k f sp) (room : Room k X.A) (kept : PySem.W.keepIn X.K (.ref f) = true) (glob : Gl X x) (found : X.mg x = some (.ref f)) (pass : Passes CX X E)
    (nodebug : (x == ("__debug__" : Str)) = false := by decide) : PE X (.Call (.Name x p) [] [] pos) (fun _ H Q => sp [] H Q E) where
  run pins s σ H Q inv ask := by
    apply wpAny_Call_Name_kw
    apply ld_glob inv glob found _ nodebug
    apply PySem.W.callWith_K0 inv.kIn kept
    exact wpAny_call (run_fnR (us := []) promise room pass inv .nil ask)
end
def tv (cs : List Nat) : V := .str (txt cs)
/-- the sum of the signs, the letters one behind the other -/
def signsL (xss : List (List Nat)) : Nat := (xss.map signL).sum
def allL (xss : List (List Nat)) : List Nat := (xss.map lettersL).flatten
def joinL (xss : List (List Nat)) : List Nat := signedL (signsL xss : Nat) (allL xss)
def Few (xss : List (List Nat)) : Prop := xss.length ≤ 10 ∧ ∀ x ∈ xss, x.length ≤ 1000
def spProd : Sp := fun vs H Q _ => ∃ xss : List (List Nat), vs = xss.map tv ∧ Few xss ∧ ∀ H', Same H H' → Q (tv (joinL xss)) H'
def spProdT : Sp := fun vs H Q _ => ∃ (p : Addr) (xss : List (List Nat)), vs = [.ref p] ∧ H p = some (.tup (xss.map tv)) ∧ Few xss ∧ ∀ H', Same H H' → Q (tv (joinL xss)) H'
def invL (ts : List Nat) : List Nat := signedL (signL ts) (lettersL ts).reverse
def spInv : Sp := fun vs H Q _ => ∃ ts : List Nat, vs = [.str (txt ts)] ∧ ts.length ≤ 1000 ∧ Q (tv (invL ts)) H
def spLBody : Sp := fun vs H Q _ => ∃ ts : List Nat, vs = [.str (txt ts)] ∧ ts.length ≤ 1000 ∧ Q (.str (txt (lettersL ts))) H
def spJoined (K : PySem.W.Frag) : Sp := fun vs H Q _ => ∃ (p : Addr) (xss : List (List Nat)), vs = [.ref p] ∧ SqL K H p (xss.map tv) ∧ Few xss ∧ ∀ H', Same H H' → Q (tv (joinL xss)) H'
theorem lettersL_le (ts : List Nat) : (lettersL ts).length ≤ ts.length := by have e := letters_len ts; omega
theorem allL_le : ∀ {xss : List (List Nat)} {m : Nat}, (∀ x ∈ xss, x.length ≤ m) → (allL xss).length ≤ xss.length * m
  | [], _, _ => Nat.zero_le _
  | x :: r, m, h => by
    have e1 : (allL (x :: r)).length = (lettersL x).length + (allL r).length := by
      show (lettersL x ++ allL r).length = _
      rw [List.length_append]
    have e2 := allL_le (xss := r) (m := m) fun y hy => h y (List.mem_cons_of_mem _ hy)
    have e3 := h x List.mem_cons_self
    have e4 := lettersL_le x
    rw [e1, List.length_cons, Nat.succ_mul]
    omega
theorem Few.all {xss : List (List Nat)} (h : Few xss) : (allL xss).length ≤ 10000 := by
  have e := allL_le h.2
  have e2 : xss.length * 1000 ≤ 10 * 1000 := Nat.mul_le_mul_right _ h.1
  omega
theorem allL_snoc (xss : List (List Nat)) (x : List Nat) : allL (xss ++ [x]) = allL xss ++ lettersL x := by
  unfold allL
  rw [List.map_append, List.flatten_append]
  simp
theorem signsL_snoc (xss : List (List Nat)) (x : List Nat) : signsL (xss ++ [x]) = signsL xss + signL x := by
  unfold signsL
  rw [List.map_append, List.sum_append]
  simp
theorem sum_int (ns : List Nat) : (ns.map fun n : Nat => (n : Int)).sum = ((ns.sum : Nat) : Int) := by
  induction ns with
  | nil => rfl
  | cons n r ih => rw [List.map_cons, List.sum_cons, List.sum_cons, ih]; omega
theorem lens_txt (xss : List (List Nat)) : ((xss.map txt).map (·.length)).sum = xss.flatten.length := by
  induction xss with
  | nil => rfl
  | cons x r ih => rw [List.map_cons, List.map_cons, List.sum_cons, ih, txt_len, List.flatten_cons, List.length_append]
theorem bit_sign (ts : List Nat) : (if decide (signL ts = 1) = true then (1 : Int) else 0) = ((signL ts : Nat) : Int) := by
  cases ts with
  | nil => rfl
  | cons c r =>
    by_cases h : c = 45
    · rw [show signL (c :: r) = 1 from if_pos h]
      rfl
    · rw [show signL (c :: r) = 0 from if_neg h]
      rfl
theorem lt_rev {cs : List Nat} (h : Lt cs) : Lt cs.reverse := fun c hc => h c (List.mem_reverse.mp hc)
theorem lt_app {as bs : List Nat} (h : Lt as) (h2 : Lt bs) : Lt (as ++ bs) := fun c hc => (List.mem_append.mp hc).elim (h c) (h2 c)
theorem inv_wd {s : Bool} {cs : List Nat} (h : Lt cs) : invL (wd s cs) = wd s cs.reverse := by
  unfold invL
  rw [letters_wd h, sign_wd h, signed_wd0]
theorem inv_inv {s : Bool} {cs : List Nat} (h : Lt cs) : invL (invL (wd s cs)) = wd s cs := by
  rw [inv_wd h, inv_wd (lt_rev h), List.reverse_reverse]
/-- letters and the same backwards cancel, whatever stands around -/
theorem red_back : ∀ (cs as bs : List Nat), redL (as ++ (cs ++ cs.reverse) ++ bs) = redL (as ++ bs)
  | [], as, bs => by simp
  | c :: r, as, bs => by
    have e : as ++ ((c :: r) ++ (c :: r).reverse) ++ bs = (as ++ [c]) ++ (r ++ r.reverse) ++ (c :: bs) := by simp
    have e2 : as ++ [c] ++ (c :: bs) = as ++ c :: c :: bs := by simp
    rw [e, red_back r, e2, red_cancel]
theorem join_back {s : Bool} {cs : List Nat} (h : Lt cs) : joinL [wd s cs, invL (wd s cs)] = cs ++ cs.reverse := by
  have hr := lt_rev h
  have e : signsL [wd s cs, wd s cs.reverse] = s.toNat + s.toNat := by
    show signL (wd s cs) + (signL (wd s cs.reverse) + 0) = _
    rw [sign_wd h, sign_wd hr]
    omega
  have e2 : allL [wd s cs, wd s cs.reverse] = cs ++ cs.reverse := by
    show lettersL (wd s cs) ++ (lettersL (wd s cs.reverse) ++ []) = _
    rw [letters_wd h, letters_wd hr, List.append_nil]
  rw [inv_wd h]
  unfold joinL
  rw [e, e2]
  cases s <;> rfl
theorem red_gone {s : Bool} {cs : List Nat} (h : Lt cs) : signedL (signL (joinL [wd s cs, invL (wd s cs)])) (redL (lettersL (joinL [wd s cs, invL (wd s cs)]))) = [] := by
  have hb : Lt (cs ++ cs.reverse) := lt_app h (lt_rev h)
  have e1 : signL (cs ++ cs.reverse) = 0 := sign_wd (s := false) hb
  have e2 : lettersL (cs ++ cs.reverse) = cs ++ cs.reverse := letters_wd (s := false) hb
  have e3 : redL (cs ++ cs.reverse) = [] := by
    have e := red_back cs [] []
    rw [List.nil_append, List.append_nil] at e
    exact e
  rw [join_back h, e1, e2, e3]
  rfl
end Tm

/-! strings of the letters 1, X, Z, W: what their products are -/
namespace Tm
open PySem PySem.Spec PyProof.Rows L2
/-! ### the letters -/
def Al : List Nat := [49, 88, 90, 87]
def pP (a b : Nat) : List Nat := ([([49, 49], [49]), ([49, 88], [88]), ([49, 90], [90]), ([49, 87], [87]), ([88, 49], [88]), ([88, 88], [49]), ([88, 90], [87]), ([88, 87], [90]), ([90, 49], [90]), ([90, 88], [45, 87]), ([90, 90], [49]), ([90, 87], [45, 88]),
  ([87, 49], [87]), ([87, 88], [45, 90]), ([87, 90], [88]), ([87, 87], [45, 49])].lookup [a, b]).getD []
def pS (a b : Nat) : Nat := signL (pP a b)
def pL (a b : Nat) : Nat := (lettersL (pP a b)).headD 0
theorem p_form : ∀ a ∈ Al, ∀ b ∈ Al, lettersL (pP a b) = [pL a b] ∧ pL a b ∈ Al ∧ pS a b ≤ 1 ∧ (pP a b).length ≤ 2 := by decide +kernel
theorem p_assoc : ∀ a ∈ Al, ∀ b ∈ Al, ∀ c ∈ Al, pL (pL a b) c = pL a (pL b c) ∧ (pS a b + pS (pL a b) c) % 2 = (pS b c + pS a (pL b c)) % 2 := by decide +kernel
theorem p_comm : ∀ a ∈ Al, ∀ b ∈ Al, pL a b = pL b a := by decide +kernel
theorem p_self : ∀ a ∈ Al, pL a a = 49 ∧ pS a a = if a = 87 then 1 else 0 := by decide +kernel
theorem p_one : ∀ a ∈ Al, pL a 49 = a ∧ pS a 49 = 0 := by decide +kernel
theorem p_lin : ∀ a ∈ Al, ∀ b ∈ Al, ∀ c ∈ Al, (pS a (pL b c) + pS (pL b c) a) % 2 = (pS a b + pS b a + (pS a c + pS c a)) % 2 := by decide +kernel
/-! ### rows of letters -/
def Al4 (cs : List Nat) : Prop := ∀ c ∈ cs, c ∈ Al
theorem Al4.head {c : Nat} {cs : List Nat} (h : Al4 (c :: cs)) : c ∈ Al := h c List.mem_cons_self
theorem Al4.tail {c : Nat} {cs : List Nat} (h : Al4 (c :: cs)) : Al4 cs := fun x hx => h x (List.mem_cons_of_mem _ hx)
theorem Al4.lt {cs : List Nat} (h : Al4 cs) : Lt cs := fun c hc e => by
  subst e
  exact absurd (h _ hc) (by decide)
def zS (as bs : List Nat) : Nat := (List.zipWith pS as bs).sum
def zL (as bs : List Nat) : List Nat := List.zipWith pL as bs
theorem zS_cons (a b : Nat) (as bs : List Nat) : zS (a :: as) (b :: bs) = pS a b + zS as bs := by
  show (pS a b :: List.zipWith pS as bs).sum = _
  rw [List.sum_cons]; rfl
theorem zL_cons (a b : Nat) (as bs : List Nat) : zL (a :: as) (b :: bs) = pL a b :: zL as bs := rfl
theorem zL_len {as bs : List Nat} (h : as.length = bs.length) : (zL as bs).length = as.length := by
  show (List.zipWith pL as bs).length = _
  rw [List.length_zipWith]; omega
theorem zL_al : ∀ {as bs : List Nat}, Al4 as → Al4 bs → Al4 (zL as bs)
  | [], _, _, _ => fun c hc => by cases hc
  | _ :: _, [], _, _ => fun c hc => by cases hc
  | a :: as, b :: bs, ha, hb => by
    intro c hc
    rw [zL_cons] at hc
    rcases List.mem_cons.mp hc with rfl | hc
    · exact (p_form a ha.head b hb.head).2.1
    · exact zL_al ha.tail hb.tail c hc
theorem z_assoc : ∀ (as bs cs : List Nat), as.length = bs.length → bs.length = cs.length → Al4 as → Al4 bs → Al4 cs → zL (zL as bs) cs = zL as (zL bs cs) ∧ (zS as bs + zS (zL as bs) cs) % 2 = (zS bs cs + zS as (zL bs cs)) % 2
  | [], [], [], _, _, _, _, _ => ⟨rfl, rfl⟩
  | a :: as, b :: bs, c :: cs, h1, h2, ha, hb, hc => by
    have i := z_assoc as bs cs (Nat.succ.inj h1) (Nat.succ.inj h2) ha.tail hb.tail hc.tail
    have p := p_assoc a ha.head b hb.head c hc.head
    simp only [zL_cons, zS_cons]
    exact ⟨by rw [p.1, i.1], by have := p.2; have := i.2; omega⟩
theorem z_comm : ∀ (as bs : List Nat), as.length = bs.length → Al4 as → Al4 bs → zL as bs = zL bs as
  | [], [], _, _, _ => rfl
  | a :: as, b :: bs, h, ha, hb => by
    rw [zL_cons, zL_cons, z_comm as bs (Nat.succ.inj h) ha.tail hb.tail, p_comm a ha.head b hb.head]
theorem z_self : ∀ (as : List Nat), Al4 as → zL as as = List.replicate as.length 49 ∧ zS as as = as.count 87
  | [], _ => ⟨rfl, rfl⟩
  | a :: as, ha => by
    have i := z_self as ha.tail
    have p := p_self a ha.head
    rw [zL_cons, zS_cons, i.1, i.2, p.1, p.2, List.count_cons]
    refine ⟨rfl, ?_⟩
    by_cases e : a = 87
    · subst e; simp [Nat.add_comm]
    · rw [if_neg e, if_neg (by simpa using e)]; omega
theorem z_one : ∀ (as : List Nat), Al4 as → zL as (List.replicate as.length 49) = as ∧ zS as (List.replicate as.length 49) = 0
  | [], _ => ⟨rfl, rfl⟩
  | a :: as, ha => by
    have i := z_one as ha.tail
    have p := p_one a ha.head
    rw [List.length_cons, List.replicate_succ, zL_cons, zS_cons, i.1, i.2, p.1, p.2]
    exact ⟨rfl, rfl⟩
theorem z_lin : ∀ (as bs cs : List Nat), as.length = bs.length → bs.length = cs.length → Al4 as → Al4 bs → Al4 cs → (zS as (zL bs cs) + zS (zL bs cs) as) % 2 = (zS as bs + zS bs as + (zS as cs + zS cs as)) % 2
  | [], [], [], _, _, _, _, _ => rfl
  | a :: as, b :: bs, c :: cs, h1, h2, ha, hb, hc => by
    have i := z_lin as bs cs (Nat.succ.inj h1) (Nat.succ.inj h2) ha.tail hb.tail hc.tail
    have p := p_lin a ha.head b hb.head c hc.head
    simp only [zL_cons, zS_cons]
    omega
theorem al_ones (n : Nat) : Al4 (List.replicate n 49) := fun c hc => by rw [List.eq_of_mem_replicate hc]; decide
/-! ### strings: texts of letters with a sign -/
def od (n : Nat) : Bool := decide (n % 2 = 1)
theorem od_nat (n : Nat) : (od n).toNat = n % 2 := by
  unfold od
  rcases Nat.mod_two_eq_zero_or_one n with h | h
  · rw [h]; rfl
  · rw [h]; rfl
theorem od_eq {m n : Nat} (h : m % 2 = n % 2) : od m = od n := by unfold od; rw [h]
theorem od_bit (b : Bool) : od b.toNat = b := by cases b <;> rfl
def two (x y : List Nat) : List Nat := signedL ((signL x + signL y + zS (lettersL x) (lettersL y) : Nat) : Int) (zL (lettersL x) (lettersL y))
theorem signed_od (n : Nat) (cs : List Nat) : signedL ((n : Nat) : Int) cs = wd (od n) cs := by
  rw [signed_wd]
  unfold od
  have e : decide (((n : Nat) : Int) % 2 = 1) = decide (n % 2 = 1) := by
    by_cases h : n % 2 = 1
    · rw [decide_eq_true h, decide_eq_true (by omega)]
    · rw [decide_eq_false h, decide_eq_false (by omega)]
  rw [e]
theorem two_wd {s t : Bool} {as bs : List Nat} (ha : Al4 as) (hb : Al4 bs) : two (wd s as) (wd t bs) = wd (od (s.toNat + t.toNat + zS as bs)) (zL as bs) := by
  unfold two
  rw [sign_wd ha.lt, sign_wd hb.lt, letters_wd ha.lt, letters_wd hb.lt, signed_od]
def multL : List (List Nat) → List Nat
  | [] => []
  | x :: r => r.foldl two x
/-- a string of n letters -/
def Sn (n : Nat) (x : List Nat) : Prop := ∃ s cs, x = wd s cs ∧ cs.length = n ∧ Al4 cs
theorem Sn.two {n : Nat} {x y : List Nat} (hx : Sn n x) (hy : Sn n y) : Sn n (two x y) := by
  obtain ⟨s, as, rfl, la, ha⟩ := hx
  obtain ⟨t, bs, rfl, lb, hb⟩ := hy
  exact ⟨_, _, two_wd ha hb, by rw [zL_len (by omega)]; exact la, zL_al ha hb⟩
theorem Sn.fold {n : Nat} : ∀ {r : List (List Nat)} {x : List Nat}, Sn n x → (∀ y ∈ r, Sn n y) → Sn n (r.foldl Tm.two x)
  | [], _, hx, _ => hx
  | y :: r, x, hx, hr => Sn.fold (r := r) (hx.two (hr y List.mem_cons_self)) fun z hz => hr z (List.mem_cons_of_mem _ hz)
theorem Sn.len {n : Nat} {x : List Nat} (h : Sn n x) : x.length ≤ n + 1 ∧ (lettersL x).length = n ∧ Al4 (lettersL x) := by
  obtain ⟨s, cs, rfl, l, a⟩ := h
  refine ⟨?_, by rw [letters_wd a.lt]; exact l, by rw [letters_wd a.lt]; exact a⟩
  rw [wd_len, l]
  cases s
  · exact Nat.le_succ _
  · exact Nat.le_refl _
theorem Sn.one (n : Nat) : Sn n (List.replicate n 49) := ⟨false, _, rfl, List.length_replicate, al_ones n⟩
theorem two_assoc {n : Nat} {x y z : List Nat} (hx : Sn n x) (hy : Sn n y) (hz : Sn n z) : two (two x y) z = two x (two y z) := by
  obtain ⟨s, as, rfl, la, ha⟩ := hx
  obtain ⟨t, bs, rfl, lb, hb⟩ := hy
  obtain ⟨u, cs, rfl, lc, hc⟩ := hz
  have a := z_assoc as bs cs (by omega) (by omega) ha hb hc
  rw [two_wd ha hb, two_wd hb hc, two_wd (zL_al ha hb) hc, two_wd ha (zL_al hb hc), a.1, od_nat, od_nat]
  congr 1
  apply od_eq
  have := a.2
  omega
theorem two_body {n : Nat} {x y : List Nat} (hx : Sn n x) (hy : Sn n y) : lettersL (two x y) = lettersL (two y x) := by
  obtain ⟨s, as, rfl, la, ha⟩ := hx
  obtain ⟨t, bs, rfl, lb, hb⟩ := hy
  rw [two_wd ha hb, two_wd hb ha, letters_wd (zL_al ha hb).lt, letters_wd (zL_al hb ha).lt, z_comm as bs (by omega) ha hb]
theorem two_self {s : Bool} {cs : List Nat} (h : Al4 cs) : two (wd s cs) (wd s cs) = wd (od (cs.count 87)) (List.replicate cs.length 49) := by
  rw [two_wd h h, (z_self cs h).1, (z_self cs h).2]
  congr 1
  apply od_eq
  cases s <;> simp
theorem two_one {n : Nat} {x : List Nat} (hx : Sn n x) : two x (List.replicate n 49) = x := by
  obtain ⟨s, as, rfl, la, ha⟩ := hx
  have e : List.replicate n 49 = wd false (List.replicate as.length 49) := by rw [la]; rfl
  rw [e, two_wd ha (al_ones _), (z_one as ha).1, (z_one as ha).2]
  congr 1
  exact od_bit s
theorem two_four {n : Nat} {x : List Nat} (hx : Sn n x) : two (two (two x x) x) x = List.replicate n 49 := by
  obtain ⟨s, as, rfl, la, ha⟩ := hx
  have e1 := two_self (s := s) ha
  have e2 : two (two (two (wd s as) (wd s as)) (wd s as)) (wd s as) = two (two (wd s as) (wd s as)) (two (wd s as) (wd s as)) := by
    refine two_assoc (n := n) ?_ ⟨s, as, rfl, la, ha⟩ ⟨s, as, rfl, la, ha⟩
    exact Sn.two ⟨s, as, rfl, la, ha⟩ ⟨s, as, rfl, la, ha⟩
  rw [e2, e1, two_self (al_ones _)]
  have e3 : (List.replicate as.length 49).count 87 = 0 := by rw [List.count_replicate]; rfl
  rw [e3, List.length_replicate, la]
  rfl
/-- whether two strings commute -/
def cmB (x y : List Nat) : Bool := decide (two x y = two y x)
theorem cm_wd {s t : Bool} {as bs : List Nat} (ha : Al4 as) (hb : Al4 bs) (l : as.length = bs.length) : cmB (wd s as) (wd t bs) = decide ((zS as bs + zS bs as) % 2 = 0) := by
  unfold cmB
  rw [two_wd ha hb, two_wd hb ha, z_comm bs as l.symm hb ha]
  have inj : ∀ (a b : Bool) (cs : List Nat), wd a cs = wd b cs → a = b := by
    intro a b cs e
    have e2 := congrArg List.length e
    rw [wd_len, wd_len] at e2
    cases a <;> cases b <;> first | rfl | (simp at e2)
  have key : (od (s.toNat + t.toNat + zS as bs) = od (t.toNat + s.toNat + zS bs as)) ↔ (zS as bs + zS bs as) % 2 = 0 := by
    unfold od
    rw [decide_eq_decide]
    omega
  by_cases h : (zS as bs + zS bs as) % 2 = 0
  · rw [decide_eq_true h, key.mpr h]; exact decide_eq_true rfl
  · rw [decide_eq_false h]
    exact decide_eq_false fun e => h (key.mp (inj _ _ _ e))
theorem cm_lin {n : Nat} {x y z : List Nat} (hx : Sn n x) (hy : Sn n y) (hz : Sn n z) : cmB x (two y z) = (cmB x y == cmB x z) := by
  obtain ⟨s, as, rfl, la, ha⟩ := hx
  obtain ⟨t, bs, rfl, lb, hb⟩ := hy
  obtain ⟨u, cs, rfl, lc, hc⟩ := hz
  have lin := z_lin as bs cs (by omega) (by omega) ha hb hc
  rw [two_wd hb hc, cm_wd ha (zL_al hb hc) (by rw [zL_len (by omega)]; omega), cm_wd ha hb (by omega), cm_wd ha hc (by omega)]
  have q1 := Nat.mod_two_eq_zero_or_one (zS as bs + zS bs as)
  have q2 := Nat.mod_two_eq_zero_or_one (zS as cs + zS cs as)
  rcases q1 with q1 | q1 <;> rcases q2 with q2 | q2 <;> (rw [q1, q2]; first | (rw [show (zS as (zL bs cs) + zS (zL bs cs) as) % 2 = 0 by omega]; rfl) | (rw [show (zS as (zL bs cs) + zS (zL bs cs) as) % 2 = 1 by omega]; rfl))
/-! ### a sign written n times; how often a sign stands in a text -/
theorem mul_ones (c n : Nat) : Txt.mul ⟨#[c]⟩ ((n : Nat) : Int) = txt (List.replicate n c) := by
  unfold Txt.mul
  cases n with
  | zero => rfl
  | succ n =>
    have h1 : ¬ (((n + 1 : Nat)) : Int) < 1 := by omega
    rw [if_neg h1]
    have join : ∀ (k : Nat) (a : Array Nat), (List.replicate k #[c]).foldl (· ++ ·) a = a ++ (List.replicate k c).toArray := by
      intro k
      induction k with
      | zero => intro a; simp
      | succ k ih =>
        intro a
        rw [List.replicate_succ, List.foldl_cons, ih, List.replicate_succ]
        apply Array.toList_inj.mp
        simp
    by_cases h2 : ((((n + 1 : Nat)) : Int) == 1 || (⟨#[c]⟩ : Str).length == 0) = true
    · rw [if_pos h2]
      have e : n = 0 := by
        rcases Bool.or_eq_true_iff.mp h2 with q | q
        · have := (beq_iff_eq.mp q); omega
        · cases q
      subst e
      rfl
    · rw [if_neg h2]
      have e : (((n + 1 : Nat)) : Int).toNat = n + 1 := rfl
      rw [e]
      show (⟨(List.replicate (n + 1) #[c]).foldl (· ++ ·) #[]⟩ : Str) = ⟨(List.replicate (n + 1) c).toArray⟩
      rw [join, Array.empty_append]
theorem op_times {X : Cx} : OpR X (binaryOp .Mult) (fun x y H Q => ∃ c n : Nat, x = sig c ∧ y = .int ((n : Nat) : Int) ∧ n ≤ 1000 ∧ Q (.str (txt (List.replicate n c))) H) := by
  rintro pins s σ H x y v u Q inv rx ry ⟨c, n, rfl, rfl, few, hand⟩
  rcases rx with ⟨t, rfl⟩
  rcases ry with ⟨t2, rfl⟩
  apply SB.mul
  · refine ⟨?_, fun h1 h2 => ?_, fun h1 h2 => ?_⟩
    · simp only [Bool.or_eq_false_iff, decide_eq_false_iff_not]; omega
    · show ¬ ((1 : Int) > _)
      have : (1 : Int) ≤ (2 ^ 63 - 1) / ((n : Nat) : Int) := by
        rw [Int.le_ediv_iff_mul_le (by omega)]; omega
      omega
    · unfold Builtin.Str.tooLong
      have small : (1 : Nat) * ((n : Nat) : Int).toNat ≤ sizeLine := by
        rw [Nat.one_mul]
        exact Nat.le_trans few (by decide)
      exact decide_eq_false (Nat.not_lt.mpr small)
  · intro t' k
    rw [mul_ones]
    exact ⟨.str _, H, inv.tok _, ⟨_, rfl⟩, hand⟩
theorem count_txt (cs : List Nat) (c : Nat) : Txt.count (txt cs) ⟨#[c]⟩ = ((cs.count c : Nat) : Int) := by
  rw [count_is, txt_cps]
  show cnt c cs = _
  induction cs with
  | nil => rfl
  | cons n r ih =>
    rw [cnt_cons, ih, List.count_cons]
    by_cases e : n = c
    · subst e; simp; omega
    · rw [if_neg e, if_neg (by simpa using e)]; omega
/-! ### what the defs promise -/
theorem txt_al : Str.ofString "1XZW" = txt Al := by decide +kernel
theorem all_al {cs : List Nat} (h : Al4 cs) : (cs.all fun c => decide (c ∈ Al)) = true := List.all_eq_true.mpr fun c hc => decide_eq_true (h c hc)
def spIsStr : Sp := fun vs H Q _ => ∃ ts : List Nat, vs = [tv ts] ∧ ts.length ≤ 1000 ∧ ∀ H', Same H H' → Q (.bl ((lettersL ts).all fun c => decide (c ∈ Al))) H'
def spChkS : Sp := fun vs H Q _ => ∃ ts : List Nat, vs = [tv ts] ∧ ts.length ≤ 1000 ∧ Al4 (lettersL ts) ∧ ∀ H', Same H H' → Q .non H'
def spTwo : Sp := fun vs H Q _ => ∃ (n : Nat) (x y : List Nat), vs = [tv x, tv y] ∧ n ≤ 900 ∧ Sn n x ∧ Sn n y ∧ ∀ H', Same H H' → Q (tv (two x y)) H'
def spMult : Sp := fun vs H Q _ => ∃ (n : Nat) (xss : List (List Nat)), vs = xss.map tv ∧ n ≤ 900 ∧ xss.length ≤ 20 ∧ (∀ x ∈ xss, Sn n x) ∧ ∀ H', Same H H' → Q (tv (multL xss)) H'
def spMultT : Sp := fun vs H Q _ => ∃ (p : Addr) (n : Nat) (xss : List (List Nat)), vs = [.ref p] ∧ H p = some (.tup (xss.map tv)) ∧ n ≤ 900 ∧ xss.length ≤ 20 ∧ (∀ x ∈ xss, Sn n x) ∧ ∀ H', Same H H' → Q (tv (multL xss)) H'
def spComm : Sp := fun vs H Q _ => ∃ (n : Nat) (x y : List Nat), vs = [tv x, tv y] ∧ n ≤ 900 ∧ Sn n x ∧ Sn n y ∧ ∀ H', Same H H' → Q (.bl (cmB x y)) H'
def spIden : Sp := fun vs H Q _ => ∃ n : Nat, vs = [.int ((n : Nat) : Int)] ∧ n ≤ 900 ∧ Q (tv (List.replicate n 49)) H
/-- the texts of the products of letters -/
def prodsL (as bs : List Nat) : List (List Nat) := List.zipWith pP as bs
theorem prods_at : ∀ {as bs : List Nat} {i a b : Nat}, as[i]? = some a → bs[i]? = some b → (prodsL as bs)[i]? = some (pP a b) := by
  intro as bs i a b ha hb
  unfold prodsL
  rw [List.getElem?_zipWith, ha, hb]
theorem prods_al : ∀ {as bs : List Nat}, Al4 as → Al4 bs → ∀ x ∈ prodsL as bs, ∃ a ∈ Al, ∃ b ∈ Al, x = pP a b
  | [], _, _, _, x, hx => by cases hx
  | _ :: _, [], _, _, x, hx => by cases hx
  | a :: as, b :: bs, ha, hb, x, hx => by
    rcases List.mem_cons.mp hx with rfl | hx
    · exact ⟨a, ha.head, b, hb.head, rfl⟩
    · exact prods_al ha.tail hb.tail x hx
theorem prods_sign : ∀ (as bs : List Nat), ((prodsL as bs).map signL).sum = zS as bs
  | [], _ => rfl
  | _ :: _, [] => rfl
  | a :: as, b :: bs => by
    rw [zS_cons, ← prods_sign as bs]
    show (signL (pP a b) :: (prodsL as bs).map signL).sum = _
    rw [List.sum_cons]; rfl
theorem prods_letters : ∀ (as bs : List Nat), Al4 as → Al4 bs → ((prodsL as bs).map lettersL).flatten = zL as bs
  | [], _, _, _ => rfl
  | _ :: _, [], _, _ => rfl
  | a :: as, b :: bs, ha, hb => by
    rw [zL_cons, ← prods_letters as bs ha.tail hb.tail]
    show lettersL (pP a b) ++ ((prodsL as bs).map lettersL).flatten = _
    rw [(p_form a ha.head b hb.head).1]
    rfl
theorem cutV_drop (xs : List V) (k : Nat) : cutV xs (some (k : Int)) none = xs.drop k := by
  unfold cutV
  rw [HT.sIx_none, HT.sIx_nat]
  by_cases h : k ≤ xs.length
  · rw [Nat.min_eq_left h]
    exact List.take_of_length_le (by rw [List.length_drop]; exact Nat.le_refl _)
  · rw [Nat.min_eq_right (by omega), List.drop_of_length_le (Nat.le_refl _), List.drop_of_length_le (l := xs) (by omega)]
    exact List.take_nil
theorem fold_snoc (r : List (List Nat)) (x y : List Nat) : (r ++ [y]).foldl two x = two (r.foldl two x) y := by rw [List.foldl_append]; rfl
theorem self_sign {n : Nat} {x : List Nat} (hx : Sn n x) : two x x = signedL ((x.count 87 : Nat) : Int) (List.replicate n 49) := by
  obtain ⟨s, cs, rfl, l, a⟩ := hx
  have e : (wd s cs).count 87 = cs.count 87 := by
    cases s with
    | false => rfl
    | true => exact List.count_cons_of_ne (by decide)
  rw [two_self a, e, signed_od, l]
theorem self_body {n : Nat} {x : List Nat} (hx : Sn n x) : lettersL (two x x) = List.replicate n 49 := by
  obtain ⟨s, cs, rfl, l, a⟩ := hx
  rw [two_self a, letters_wd (al_ones _).lt, l]
def spString : Sp := fun vs H Q _ => ∃ (b l : Addr) (n : Nat), vs = [.ref b, .int ((n : Nat) : Int)] ∧ Bag H b l ∧ n ≤ 900 ∧ ∀ H' x, Kp b H H' → Bag H' b l → Sn n x → Q (tv x) H'
theorem ne_no {a b : V} (h : a = b) : (!decide (a = b)) = false := by rw [decide_eq_true h]; rfl
def five : List Nat := [49, 49, 88, 90, 87]
theorem txt_five : Str.ofString "11XZW" = txt five := by decide +kernel
/-! ### the written table of products -/
def ptab : List (String × String) := [("11", "1"), ("1X", "X"), ("1Z", "Z"), ("1W", "W"), ("X1", "X"), ("XX", "1"), ("XZ", "W"), ("XW", "Z"), ("Z1", "Z"), ("ZX", "-W"), ("ZZ", "1"), ("ZW", "-X"), ("W1", "W"), ("WX", "-Z"), ("WZ", "X"), ("WW", "-1")]
theorem ptab_all : ∀ a ∈ Al, ∀ b ∈ Al, ∃ p ∈ ptab, Str.ofString p.1 = txt [a, b] ∧ Str.ofString p.2 = txt (pP a b) := by decide +kernel
theorem kd_all {K : PySem.W.Frag} {w : World} {pd : Addr} {es : Array DictEntry} {n : Nat} (there : K.lookup pd = some ⟨.type "dict", none, .dict es n, #[]⟩) (lit : PySem.W.KeysLit w.params es.toList)
    (rows : ∀ p ∈ ptab, ∃ t, PySem.W.nsIn K pd (Str.ofString p.1) = some (some (.str (Str.ofString p.2) t))) : ∀ a ∈ Al, ∀ b ∈ Al, KDct K w pd (txt [a, b]) (tv (pP a b)) := by
  intro a ha b hb
  obtain ⟨p, hp, e1, e2⟩ := ptab_all a ha b hb
  obtain ⟨t, row⟩ := rows p hp
  rw [e1, e2] at row
  exact ⟨es, n, _, there, lit, row, ⟨t, rfl⟩⟩
end Tm

/-! a written dict of sixteen texts -/
namespace Tm
open PySem PySem.Spec PyProof.Rows L2
/-- keys and values that are written texts -/
inductive Lits (X : Cx) : List (Option Expr) → List Expr → List (Str × Str) → Prop where
  | nil : Lits X [] [] []
  | cons {k v : Expr} {ks : List (Option Expr)} {vs : List Expr} {ps : List (Str × Str)} {a b : Str} (hk : PE X k (tC (.str a))) (hv : PE X v (tC (.str b))) (rest : Lits X ks vs ps) : Lits X (some k :: ks) (v :: vs) ((a, b) :: ps)
def kvT (p : Str × Str) : Key × V := (Sum.inr p.1, .str p.2)
theorem Lits.all {X : Cx} {ks : List (Option Expr)} {vs : List Expr} {ps : List (Str × Str)} (h : Lits X ks vs ps) : ks.all (·.isSome) = true ∧ ks.length = vs.length ∧ ks.length = ps.length := by
  induction h with
  | nil => exact ⟨rfl, rfl, rfl⟩
  | cons _ _ _ ih => exact ⟨by simpa using ih.1, by simp [ih.2.1], by rw [List.length_cons, List.length_cons, ih.2.2]⟩
theorem fill_lits {X : Cx} {pins : List (Addr × Obj)} {σ : L2.St} {d : Addr} {pos : Pos} {f : Sem Value × Sem Value → PUnit → Sem (ForInStep PUnit)}
    (form : ∀ k v, f (k, v) ⟨⟩ = (do let kv ← k; let vv ← holding [kv] v; holding [kv, vv] (dictSet d kv vv); pure (.yield ⟨⟩))) :
    ∀ {ks : List (Option Expr)} {vs : List Expr} {ps : List (Str × Str)}, Lits X ks vs ps → ∀ (kvs : List (Key × V)) (H : Hp) (s : Shared) (Q : PUnit → Shared → Prop), Inv X pins σ H s → H d = some (.dK kvs) → kvs.length + ps.length ≤ 1000 →
      (∀ s', Inv X pins σ (upd H d (.dK (mergeK kvs (ps.map kvT)))) s' → Q ⟨⟩ s') → wpAny (model X.prog X.w) X.A (forIn (pairTrees ks vs X.env pos) (⟨⟩ : PUnit) f) Q X.xe s := by
  intro ks vs ps lits
  induction lits with
  | nil =>
    intro kvs H s Q inv here _ hand
    apply wpAny_pure
    apply hand
    have e : upd H d (.dK (mergeK kvs (([] : List (Str × Str)).map kvT))) = H := by
      funext b
      by_cases z : b = d
      · subst z; rw [upd_same, here]; rfl
      · rw [upd_ne z]
    rw [e]
    exact inv
  | @cons k v ks vs ps a b hk hv rest ih =>
    intro kvs H s Q inv here few hand
    show wpAny _ _ (forIn ((eval k X.env, (do let x ← eval v X.env; standAt pos; pure x)) :: pairTrees ks vs X.env pos) _ f) _ _ _
    rw [List.forIn_cons, form]
    apply wpAny_bind
    apply wpAny_bind
    apply wpAny_mono (hk.run pins s σ H (fun x H' => x = .str a ∧ H' = H) inv ⟨rfl, rfl⟩) _ (fun _ _ raised => raised)
    rintro kv s1 ⟨x, H1, inv1, rel, rfl, rfl⟩
    rcases rel with ⟨t1, rfl⟩
    apply wpAny_bind
    apply wpAny_holding
    apply wpAny_bind
    apply wpAny_mono (hv.run pins s1 σ H1 (fun x H' => x = .str b ∧ H' = H1) inv1 ⟨rfl, rfl⟩) _ (fun _ _ raised => raised)
    rintro vv s2 ⟨x, H2, inv2, rel, rfl, rfl⟩
    apply wpAny_bind
    apply wpAny_standAt
    apply wpAny_pure
    apply wpAny_bind
    apply wpAny_holding
    obtain ⟨size, low, ws, pairs, dict⟩ := dk_of inv2.hok here
    rw [List.length_cons] at few
    apply wpAny_dictSet_pairs (knd := mixKind X.prog X.w) (k := Sum.inr a) (kV_is (k := Sum.inr a) ⟨t1, rfl⟩) dict _ (by rw [← pairs.length]; exact Nat.le_of_lt (small1000 (by omega)))
    intro h' dict' same
    apply wpAny_pure
    have len := length_putK kvs (Sum.inr a) (.str b)
    have inv3 : Inv X pins σ (upd H2 d (.dK (putK kvs (Sum.inr a) (.str b)))) { s2 with heap := h', toks := s2.toks + 1 } :=
      d_write inv2 (by rw [here]; trivial) same (by obtain ⟨o, _, _, there, _⟩ := dict'; exact ⟨o, there⟩) (dk_new (Nat.le_of_lt (small1000 (by omega))) low (pairs.put (Sum.inr a) rel) dict')
    apply ih _ _ _ _ inv3 upd_same (by omega)
    intro s' inv'
    apply hand
    have e : upd (upd H2 d (.dK (putK kvs (Sum.inr a) (.str b)))) d (.dK (mergeK (putK kvs (Sum.inr a) (.str b)) (ps.map kvT))) = upd H2 d (.dK (mergeK kvs (((a, b) :: ps).map kvT))) := by
      funext c
      by_cases z : c = d
      · subst z; rw [upd_same, upd_same]; rfl
      · rw [upd_ne z, upd_ne z, upd_ne z]
    rw [← e]
    exact inv'
theorem pe_disp16 {X : Cx} {pos : Pos} {ks : List (Option Expr)} {vs : List Expr} {ps : List (Str × Str)} (lits : Lits X ks vs ps) (len : ps.length = 16) :
    PE X (.Dict ks vs pos) (fun _ H Q => ∀ p, H p = none → Q (.ref p) (upd H p (.dK (mergeK [] (ps.map kvT))))) where
  run pins s σ H Q inv ask := by
    obtain ⟨some_, same, long⟩ := lits.all
    have n16 : (pairTrees ks vs X.env pos).length = 16 := by rw [pairTrees_length ks vs X.env pos some_ same, long, len]
    rw [arm_eval_Dict, zip_pairTrees ks vs X.env pos some_ same, dictDisplay_pairs _ (fun e => by rw [e] at n16; cases n16) (by omega)]
    apply wpAny_bind
    apply wpAny_standAt
    apply wpAny_bind
    unfold subDict
    apply wpAny_bind
    apply wpAny_alloc
    apply wpAny_bind
    apply wpAny_holding
    rw [if_neg (by omega)]
    apply wpAny_bind
    apply wpAny_rule
    have new := inv.hok.fresh (Nat.le_refl s.heap.objs.size)
    have inv1 := inv.laid (a := s.heap.objs.size) (o := .dK []) (h' := s.heap.push { cls := .type "dict", data := .dict #[] }) (t' := s.toks) (fun _ _ q => Heap.get?_push_of_some _ q) (Nat.le_refl _) (dk_empty s.heap inv.big)
    apply wpAny_bind
    apply fill_lits (fun _ _ => rfl) lits [] _ _ _ inv1 upd_same (by rw [len]; decide)
    intro s' inv'
    apply wpAny_pure
    apply wpAny_pure
    apply wpAny_pure
    have e : upd (upd H s.heap.objs.size (.dK [])) s.heap.objs.size (.dK (mergeK [] (ps.map kvT))) = upd H s.heap.objs.size (.dK (mergeK [] (ps.map kvT))) := by
      funext c
      by_cases z : c = s.heap.objs.size
      · subst z; rw [upd_same, upd_same]
      · rw [upd_ne z, upd_ne z, upd_ne z]
    rw [e] at inv'
    exact ⟨.ref _, _, inv', rfl, ask _ new⟩
end Tm

/-! the law's own table of products -/
namespace Tm
open PySem PySem.Spec PyProof.Rows L2
def ptabS : List (Str × Str) := ptab.map fun p => (Str.ofString p.1, Str.ofString p.2)
def tabKV : List (Key × V) := [49, 88, 90, 87].flatMap fun a => [49, 88, 90, 87].map fun b => (Sum.inr (txt [a, b]), tv (pP a b))
theorem tab_is : mergeK [] (ptabS.map kvT) = tabKV := by decide +kernel
theorem tab_at : ∀ a ∈ Al, ∀ b ∈ Al, valV tabKV (Sum.inr (txt [a, b])) = some (tv (pP a b)) := by decide +kernel
theorem p_last : ∀ a ∈ Al, ∀ b ∈ Al, atI (pP a b) (-1) = some (pL a b) := by decide +kernel
theorem p_pair : ∀ a ∈ Al, ∀ b ∈ Al, two [a] [b] = pP a b := by decide +kernel
theorem p_first : ∀ a ∈ Al, pL 49 a = a ∧ pS 49 a = 0 := by decide +kernel
theorem z_first : ∀ (as : List Nat), Al4 as → zL (List.replicate as.length 49) as = as ∧ zS (List.replicate as.length 49) as = 0
  | [], _ => ⟨rfl, rfl⟩
  | a :: as, ha => by
    have i := z_first as ha.tail
    have p := p_first a ha.head
    rw [List.length_cons, List.replicate_succ, zL_cons, zS_cons, i.1, i.2, p.1, p.2]
    exact ⟨rfl, rfl⟩
theorem one_two {n : Nat} {x : List Nat} (hx : Sn n x) : two (List.replicate n 49) x = x := by
  obtain ⟨s, as, rfl, la, ha⟩ := hx
  have e : List.replicate n 49 = wd false (List.replicate as.length 49) := by rw [la]; rfl
  rw [e, two_wd (al_ones _) ha, (z_first as ha).1, (z_first as ha).2]
  congr 1
  have e2 := od_bit s
  rw [← e2]
  apply od_eq
  cases s <;> rfl
theorem all_mult {n : Nat} {x : List Nat} (r : List (List Nat)) (hx : Sn n x) : (x :: r).foldl two (List.replicate n 49) = multL (x :: r) := by
  show r.foldl two (two (List.replicate n 49) x) = r.foldl two x
  rw [one_two hx]
def spTab : Sp := fun vs H Q _ => vs = [] ∧ ∀ H' p, Same H H' → H p = none → H' p = some (.dK tabKV) → Q (.ref p) H'
def spTAll (K : PySem.W.Frag) : Sp := fun vs H Q _ => ∃ (n : Nat) (a : Addr) (xss : List (List Nat)), vs = [.ref a, .int ((n : Nat) : Int)] ∧ SqL K H a (xss.map tv) ∧ n ≤ 900 ∧ xss.length ≤ 20 ∧ (∀ x ∈ xss, Sn n x) ∧ ∀ H', Same H H' → Q (tv (xss.foldl two (List.replicate n 49))) H'
theorem zL_take (as bs : List Nat) {i a b : Nat} (ha : as[i]? = some a) (hb : bs[i]? = some b) : (zL as bs).take (i + 1) = (zL as bs).take i ++ [pL a b] := by
  have e : (zL as bs)[i]? = some (pL a b) := by unfold zL; rw [List.getElem?_zipWith, ha, hb]
  rw [List.take_succ, e]; rfl
theorem zS_take (as bs : List Nat) {i a b : Nat} (ha : as[i]? = some a) (hb : bs[i]? = some b) : ((List.zipWith pS as bs).take (i + 1)).sum = ((List.zipWith pS as bs).take i).sum + pS a b := by
  have e : (List.zipWith pS as bs)[i]? = some (pS a b) := by rw [List.getElem?_zipWith, ha, hb]
  rw [List.take_succ, e, List.sum_append]; simp
/-! ### all pairs of letters -/
def prs (as : List Nat) : List (Nat × Nat) := as.flatMap fun a => Al.map fun b => (a, b)
theorem prs_snoc (as : List Nat) (a : Nat) : prs (as ++ [a]) = prs as ++ Al.map fun b => (a, b) := by
  unfold prs
  rw [List.flatMap_append]
  simp
theorem prs_mem {p : Nat × Nat} (h : p ∈ prs Al) : p.1 ∈ Al ∧ p.2 ∈ Al := (show ∀ p ∈ prs Al, p.1 ∈ Al ∧ p.2 ∈ Al by decide) p h
theorem prs_few : ∀ i, i ≤ 4 → (prs (Al.take i)).length = 4 * i := by decide
theorem dp_strs {K : PySem.W.Frag} {H : Hp} : ∀ zs : List Str, DpAll K H (zs.map V.str) (zs.map PyData.str)
  | [] => .nil
  | z :: r => .cons (.str z) (dp_strs r)
theorem cm_dec (x y : List Nat) : cmB x y = decide (tv (two x y) = tv (two y x)) := by
  unfold cmB
  apply decide_eq_decide.mpr
  exact ⟨fun e => congrArg tv e, fun e => txt_inj (V.str.inj e)⟩
theorem cm_swap (x y : List Nat) : cmB y x = decide (tv (two x y) = tv (two y x)) := by
  unfold cmB
  apply decide_eq_decide.mpr
  exact ⟨fun e => congrArg tv e.symm, fun e => (txt_inj (V.str.inj e)).symm⟩
theorem cm_self (x : List Nat) : cmB x x = true := decide_eq_true rfl
end Tm

/-! The drawn webs of the laws: their data. -/
namespace Tm
open PySem PySem.Spec PyProof.Rows L2

/-! ### what a drawn web is: marks by node, ends by letter -/
def marksK (ms : List (Int × Int)) : List (Key × V) := ms.map fun m => (Sum.inl m.1, V.int m.2)
/-- letter, address of its pair, lesser end, greater end -/
structure Edg where
  letter : Nat
  pair : Addr
  lo : Int
  hi : Int
def endsK (es : List Edg) : List (Key × V) := es.map fun e => (Sum.inr (txt [e.letter]), V.ref e.pair)
structure RawOk (H : Hp) (ms : List (Int × Int)) (es : List Edg) : Prop where
  rise : (ms.map (·.1)).Pairwise (· < ·)
  node : ∀ m ∈ ms, 0 ≤ m.1 ∧ m.1 < 12
  mark : ∀ m ∈ ms, m.2 = 0 ∨ m.2 = 1
  risE : (es.map (·.letter)).Pairwise (· < ·)
  name : ∀ e ∈ es, e.letter ∈ alpha
  pair : ∀ e ∈ es, H e.pair = some (.tup [.int e.lo, .int e.hi])
  less : ∀ e ∈ es, e.lo < e.hi
  ends : ∀ e ∈ es, e.lo ∈ ms.map (·.1) ∧ e.hi ∈ ms.map (·.1)
/-- a drawn web: a tuple of two dicts -/
def RawAt (H : Hp) (t : Addr) (ms : List (Int × Int)) (es : List Edg) : Prop :=
  ∃ dm de : Addr, H t = some (.tup [.ref dm, .ref de]) ∧ H dm = some (.dK (marksK ms)) ∧ H de = some (.dK (endsK es)) ∧ RawOk H ms es
def spRaw : Sp := fun vs H Q _ => ∃ (b l : Addr) (wide many : Int), vs = [.ref b, .int wide, .int many] ∧ Bag H b l ∧ 0 ≤ wide ∧ wide ≤ 12 ∧ 0 ≤ many ∧ many ≤ 24 ∧
  ∀ H' t ms es, Kp b H H' → Bag H' b l → RawAt H' t ms es → Q (.ref t) H'

/-! ### rising lists -/
theorem rise_lt {ns : List Int} (h : ns.Pairwise (· ≤ ·)) (nd : ns.Nodup) : ns.Pairwise (· < ·) := by
  induction ns with
  | nil => exact .nil
  | cons n r ih =>
    rcases List.pairwise_cons.mp h with ⟨h1, h2⟩
    rcases List.nodup_cons.mp nd with ⟨n1, n2⟩
    refine List.pairwise_cons.mpr ⟨fun m hm => ?_, ih h2 n2⟩
    have a := h1 m hm
    have c : n ≠ m := fun e => n1 (e ▸ hm)
    omega
theorem rise_get {ns : List Int} (h : ns.Pairwise (· < ·)) {i j : Nat} (hi : i < ns.length) (hj : j < ns.length) (hij : i < j) : ns[i] < ns[j] := List.pairwise_iff_getElem.mp h i j hi hj hij
/-- merging pairs with new keys only appends them -/
theorem valV_fresh {kvs : List (Key × V)} {k : Key} (h : k ∉ kvs.map (·.1)) : valV kvs k = none := by
  induction kvs with
  | nil => rfl
  | cons p r ih =>
    have h1 : ¬ p.1 = k := fun e => h (by rw [List.map_cons, e]; exact List.mem_cons_self)
    rw [valV_neg h1]
    exact ih fun m => h (by rw [List.map_cons]; exact List.mem_cons_of_mem _ m)
theorem merge_fresh : ∀ (more kvs : List (Key × V)), ((kvs ++ more).map (·.1)).Nodup → mergeK kvs more = kvs ++ more
  | [], kvs, _ => (List.append_nil kvs).symm
  | p :: r, kvs, h => by
    have h0 : p.1 ∉ kvs.map (·.1) := fun m => by
      rw [List.map_append, List.map_cons] at h
      exact (List.nodup_append.mp h).2.2 _ m _ List.mem_cons_self rfl
    have e : kvs ++ p :: r = (kvs ++ [p]) ++ r := by rw [List.append_assoc]; rfl
    show mergeK (putK kvs p.1 p.2) r = _
    rw [putK_new p.2 (valV_fresh h0)]
    show mergeK (kvs ++ [p]) r = _
    rw [e] at h ⊢
    exact merge_fresh r (kvs ++ [p]) h

/-! ### letters in their order -/
theorem up_letters : ∀ (cs : List Nat) (c : Nat), risingS (txt [c]) (cs.map fun d => txt [d]) = true → (c :: cs).Pairwise (· ≤ ·)
  | [], c, _ => List.pairwise_singleton _ _
  | d :: r, c, h => by
    have h' : (!ltCps [d] [c] && risingS (txt [d]) (r.map fun e => txt [e])) = true := h
    rcases Bool.and_eq_true_iff.mp h' with ⟨g1, g2⟩
    have rest := up_letters r d g2
    have cd : c ≤ d := by
      have g3 : ltCps [d] [c] = false := by simpa using g1
      have g4 : (decide (d < c) || (d == c && ltCps [] [])) = false := g3
      have g5 : decide (d < c) = false := (Bool.or_eq_false_iff.mp g4).1
      have g6 := of_decide_eq_false g5
      omega
    refine List.pairwise_cons.mpr ⟨fun e he => ?_, rest⟩
    rcases List.mem_cons.mp he with q | q
    · omega
    · exact Nat.le_trans cd ((List.pairwise_cons.mp rest).1 e q)
theorem letters_rise {cs : List Nat} (h : sortedS (cs.map fun d => txt [d]) = true) (nd : cs.Nodup) : cs.Pairwise (· < ·) := by
  have up : cs.Pairwise (· ≤ ·) := by
    cases cs with
    | nil => exact .nil
    | cons c r => exact up_letters r c h
  refine up.imp_of_mem (fun {a b} ha hb hab => hab) |>.and nd |>.imp fun {a b} hab => ?_
  have := hab.1
  have := hab.2
  omega
theorem perm_letters {ys : List Str} {cs : List Nat} (h : ys.Perm (cs.map fun d => txt [d])) : ∃ ds : List Nat, ys = ds.map (fun d => txt [d]) ∧ ds.Perm cs := by
  refine ⟨ys.map fun y => y.cps.toList.headD 0, ?_, ?_⟩
  · have back : ∀ y ∈ ys, txt [y.cps.toList.headD 0] = y := fun y hy => by
      obtain ⟨c, _, rfl⟩ := List.mem_map.mp (h.mem_iff.mp hy)
      rfl
    rw [List.map_map]
    exact ((List.map_congr_left back).trans (List.map_id' ys)).symm
  · have h2 := h.map fun y => y.cps.toList.headD 0
    rw [List.map_map] at h2
    have e : ((fun y : Str => y.cps.toList.headD 0) ∘ fun d => txt [d]) = id := funext fun c => rfl
    rw [e, List.map_id] at h2
    exact h2
theorem perm_ints {ys : List V} {ns : List Int} (h : ys.Perm (ns.map V.int)) : ∃ ks : List Int, ys = ks.map V.int ∧ ks.Perm ns := by
  refine ⟨ys.map fun y => match y with | .int i => i | _ => 0, ?_, ?_⟩
  · have back : ∀ y ∈ ys, V.int (match y with | .int i => i | _ => 0) = y := fun y hy => by
      obtain ⟨c, _, rfl⟩ := List.mem_map.mp (h.mem_iff.mp hy)
      rfl
    rw [List.map_map]
    exact ((List.map_congr_left back).trans (List.map_id' ys)).symm
  · have h2 := h.map fun y => match y with | V.int i => i | _ => 0
    rw [List.map_map] at h2
    have e : ((fun y : V => match y with | .int i => i | _ => 0) ∘ V.int) = id := funext fun c => rfl
    rw [e, List.map_id] at h2
    exact h2
def twelve : List Int := [0, 1, 2, 3, 4, 5, 6, 7, 8, 9, 10, 11]
theorem rg12 : rgV 0 12 = twelve.map V.int := rfl
theorem twelve_mem {n : Int} (h : n ∈ twelve) : 0 ≤ n ∧ n < 12 := by
  simp only [twelve, List.mem_cons, List.not_mem_nil, or_false] at h
  omega
theorem alpha_nodup : alpha.Nodup := by decide
theorem twelve_nodup : twelve.Nodup := by decide
theorem gname {i : Nat} {v : V} {σ : L2.St} {H : Hp} {Q : L2.St → Hp → Prop} (h : Q (σ.set i (some v)) H) : gName i v σ H Q := h

/-! ### what the checks of a web promise, of a web that is one -/
def MarksOk (ms : List (Int × Int)) : Prop := (ms.map (·.1)).Nodup ∧ ms.length < 64 ∧ (∀ m ∈ ms, 0 ≤ m.1 ∧ m.1 < 12) ∧ ∀ m ∈ ms, m.2 = 0 ∨ m.2 = 1
/-- letter, address, and the two ends as they stand in the pair -/
def EdgesOk (H : Hp) (ms : List (Int × Int)) (es : List Edg) : Prop := (es.map (·.letter)).Nodup ∧ es.length < 64 ∧ (∀ e ∈ es, e.letter ∈ alpha) ∧
  ∀ e ∈ es, H e.pair = some (.tup [.int e.lo, .int e.hi]) ∧ e.lo ≠ e.hi ∧ e.lo ∈ ms.map (·.1) ∧ e.hi ∈ ms.map (·.1)
theorem EdgesOk.same {H H' : Hp} {ms : List (Int × Int)} {es : List Edg} (h : EdgesOk H ms es) (s : Same H H') : EdgesOk H' ms es :=
  ⟨h.1, h.2.1, h.2.2.1, fun e he => ⟨s _ _ (h.2.2.2 e he).1, (h.2.2.2 e he).2⟩⟩
def spIsNode : Sp := fun vs H Q _ => ∃ n : Int, vs = [.int n] ∧ 0 ≤ n ∧ n < 12 ∧ Q (.bl true) H
def spIsMark : Sp := fun vs H Q _ => ∃ n : Int, vs = [.int n] ∧ (n = 0 ∨ n = 1) ∧ ∀ H', Same H H' → Q (.bl true) H'
def spIsName : Sp := fun vs H Q _ => ∃ c : Nat, vs = [.str (txt [c])] ∧ c ∈ alpha ∧ Q (.bl true) H
def spJoins : Sp := fun vs H Q _ => ∃ (dm p : Addr) (ms : List (Int × Int)) (x y : Int), vs = [.ref dm, .ref p] ∧ H dm = some (.dK (marksK ms)) ∧ H p = some (.tup [.int x, .int y]) ∧ x ≠ y ∧ x ∈ ms.map (·.1) ∧ y ∈ ms.map (·.1) ∧ Q (.bl true) H
def spChkM : Sp := fun vs H Q _ => ∃ (dm : Addr) (ms : List (Int × Int)), vs = [.ref dm] ∧ H dm = some (.dK (marksK ms)) ∧ MarksOk ms ∧ ∀ H', Same H H' → Q .non H'
def spChkE : Sp := fun vs H Q _ => ∃ (dm de : Addr) (ms : List (Int × Int)) (es : List Edg), vs = [.ref dm, .ref de] ∧ H dm = some (.dK (marksK ms)) ∧ H de = some (.dK (endsK es)) ∧ EdgesOk H ms es ∧ ∀ H', Same H H' → Q .non H'
theorem keysM (ms : List (Int × Int)) : (marksK ms).map (·.1) = (ms.map (·.1)).map Sum.inl := by
  unfold marksK
  rw [List.map_map, List.map_map]
  rfl
theorem keysE (es : List Edg) : (endsK es).map (·.1) = (es.map fun e => txt [e.letter]).map Sum.inr := by
  unfold endsK
  rw [List.map_map, List.map_map]
  rfl
/-- what a dict gives under a key that it has once -/
theorem valV_mem {kvs : List (Key × V)} {k : Key} {v : V} (nd : (kvs.map (·.1)).Nodup) (h : (k, v) ∈ kvs) : valV kvs k = some v := by
  induction kvs with
  | nil => cases h
  | cons p r ih =>
    rw [List.map_cons] at nd
    rcases List.nodup_cons.mp nd with ⟨n1, n2⟩
    rcases List.mem_cons.mp h with e | e
    · subst e
      exact valV_pos rfl
    · have ne : ¬ p.1 = k := fun z => n1 (by rw [z]; exact List.mem_map.mpr ⟨(k, v), e, rfl⟩)
      rw [valV_neg ne]
      exact ih n2 e
theorem mark_at {ms : List (Int × Int)} (nd : (ms.map (·.1)).Nodup) {n x : Int} (h : (n, x) ∈ ms) : valV (marksK ms) (Sum.inl n) = some (.int x) := by
  refine valV_mem ?_ (List.mem_map.mpr ⟨(n, x), h, rfl⟩)
  rw [keysM]
  exact List.pairwise_map.mpr (nd.imp fun hac he => hac (Sum.inl.inj he))
theorem mark_some {ms : List (Int × Int)} {n : Int} (h : n ∈ ms.map (·.1)) : ∃ v, valV (marksK ms) (Sum.inl n) = some v := by
  induction ms with
  | nil => cases h
  | cons m r ih =>
    by_cases e : m.1 = n
    · exact ⟨_, valV_pos (p := ((Sum.inl m.1 : Key), V.int m.2)) (congrArg Sum.inl e)⟩
    · rw [List.map_cons] at h
      rcases List.mem_cons.mp h with q | q
      · exact absurd q.symm e
      · obtain ⟨v, hv⟩ := ih q
        refine ⟨v, ?_⟩
        have ne : ¬ ((Sum.inl m.1 : Key) = Sum.inl n) := fun z => e (Sum.inl.inj z)
        show valV (((Sum.inl m.1 : Key), V.int m.2) :: marksK r) (Sum.inl n) = some v
        rw [valV_neg (p := ((Sum.inl m.1 : Key), V.int m.2)) ne]
        exact hv
theorem end_at {es : List Edg} (nd : (es.map (·.letter)).Nodup) {e : Edg} (h : e ∈ es) : valV (endsK es) (Sum.inr (txt [e.letter])) = some (.ref e.pair) := by
  refine valV_mem ?_ (List.mem_map.mpr ⟨e, h, rfl⟩)
  have q : (endsK es).map (·.1) = (es.map (·.letter)).map fun c => (Sum.inr (txt [c]) : Key) := by
    unfold endsK
    rw [List.map_map, List.map_map]
    rfl
  rw [q]
  exact List.pairwise_map.mpr (nd.imp fun hac he => hac (List.head_eq_of_cons_eq (txt_inj (Sum.inr.inj he))))
end Tm

namespace T78
open PySem PySem.Spec PyProof.Rows L2 Tm
def topS (i : Nat) : Stmt := PySem.Challenge.pw_threadmark_k78_webs_and_tables_asked_by.main.body.getD i (.Pass ⟨0, 0, 0, 0⟩)
abbrev sBag : Stmt := topS 44
abbrev sPull : Stmt := topS 45
abbrev sOf : Stmt := topS 46
theorem scBag : FnScope ["_law_script", "_law_salt", "_law_cell"] ["_law_script"] (defScope sBag) := ⟨rfl, rfl, rfl, by decide +kernel, rfl, by decide +kernel, by decide +kernel⟩
theorem scPull : FnScope ["_law_bag_here", "_law_many", "_law_cell", "_law_digit", "_law_square"] ["_law_bag_here", "_law_many"] (defScope sPull) := ⟨rfl, rfl, rfl, by decide +kernel, rfl, by decide +kernel, by decide +kernel⟩
theorem scOf : FnScope ["_law_bag_here", "_law_things"] ["_law_bag_here", "_law_things"] (defScope sOf) := ⟨rfl, rfl, rfl, by decide +kernel, rfl, by decide +kernel, by decide +kernel⟩
section
variable {P : Program} {w : World} {K : PySem.W.Frag} {mg : Str → Option Value} {base : Heap}
theorem ok_bag {f : Addr} {fd : FuncData} (F : Fun K "_law_bag" "_law_bag" sBag f fd) (ml : mg "list" = none) : FnOk P w K mg base CX0 1 f fd ["_law_script"] (spBag K) := by
  refine F.ok scBag (fun vs H Q E h => ?_) (fun cdv A outer s H vs Q E hr h => ?_)
  · obtain ⟨a, ns, rfl, _⟩ := h
    rfl
  · obtain ⟨a, ns, rfl, hS, q⟩ := h
    refine ⟨_, pss_cons (ps_set (i := 1) scBag.nd rfl (.inl rfl) pe_int)
      (pss_cons (ps_for PassesOwn.never rfl (pi_list (pe_slice sl_list (pv 0) po_none (po_some pe_int))) (pg_name (i := 2) scBag.nd rfl (.inl rfl))
        (pss_one (ps_set (i := 1) scBag.nd rfl (.inl rfl) (pe_op op_mod (pe_op op_add (pe_op op_add (pe_op op_mul (pv 1) pe_int) (pe_op op_mod (pv 2) pe_int)) pe_int) pe_int))))
      (pss_one (ps_ret (pe_lst (pa_cons (pe_callTy call_list_of (by rfl) ml boot_list (pa_cons (pe_slice sl_list (pv 0) po_none (po_some pe_int)) pa_nil)) (pa_cons pe_int (pa_cons pe_int (pa_cons (pv 1) pa_nil)))))))), ?_⟩
    refine ⟨.ref a, rfl, 63, rfl, a, ns.map V.int, rfl, hS, fun p np => ?_⟩
    have s1 : Same H (upd H p (.lst (cutV (ns.map V.int) none (some 63)))) := same_upd np
    refine ⟨p, rfl, ⟨_, .inl (.inl upd_same)⟩, for_list (K := K) (a := p) (xs := cutV (ns.map V.int) none (some 63))
      (fun i σ H' => ∃ (z : Int) (y : Option V), σ = [some (.ref a), some (.int z), y] ∧ 0 ≤ z ∧ z < 2147483549 ∧ H' = upd H p (.lst (cutV (ns.map V.int) none (some 63)))) ⟨3808, none, rfl, by decide, by decide, rfl⟩
      (fun i σ H' _ ⟨_, _, _, _, _, e⟩ => by rw [e]; exact .inl (.inl upd_same)) ?_ ?_⟩
    · rintro i y σ H' hi ⟨z, y0, rfl, h0, h1, rfl⟩
      obtain ⟨u, rfl⟩ := cut_int hi
      refine ⟨_, rfl, _, _, rfl, rfl, .inl ⟨by omega, by omega⟩, _, rfl, _, _, rfl, rfl, (by dsimp only; decide), _, _, rfl, rfl, _, _, rfl, rfl, _, _, rfl, rfl, (by dsimp only; decide), ?_⟩
      refine ⟨_, _, rfl, Int.emod_nonneg _ (by decide), Int.emod_lt_of_pos _ (by decide), rfl⟩
    · rintro σ H' ⟨z, y0, rfl, h0, h1, rfl⟩
      refine ⟨.ref a, rfl, 63, rfl, a, ns.map V.int, rfl, s1.seq hS, fun p2 np2 => ?_⟩
      refine ⟨p2, _, rfl, .inl (.inl (.inl upd_same)), fun l nl => ?_⟩
      refine ⟨.int z, rfl, (by show 4 ≤ sizeLine; decide), fun b nb => ?_⟩
      have e2 := (same_upd (o := .lst (cutV (ns.map V.int) none (some 63))) np2)
      have e3 := (same_upd (o := .lst (cutV (ns.map V.int) none (some 63))) nl)
      have e4 := (same_upd (o := .lst [.ref l, .int 0, .int 0, .int z]) nb)
      have f4 := ((s1.trans e2).trans e3).free nb
      have f3 := (s1.trans e2).free nl
      obtain ⟨ms, em⟩ := cut_ints ns none (some 63)
      refine q _ b l (((s1.trans e2).trans e3).trans e4) f4 f3 ⟨ms, 0, 0, z, upd_same, ?_, by decide, by decide, h0, h1⟩
      rw [← em]
      exact e4 _ _ upd_same

theorem ok_pull {f : Addr} {fd : FuncData} (F : Fun K "_law_pull" "_law_pull" sPull f fd) (ml : mg "len" = none) : FnOk P w K mg base CX0 1 f fd ["_law_bag_here", "_law_many"] spPull := by
  refine F.ok scPull (fun vs H Q E h => ?_) (fun cdv A outer s H vs Q E hr h => ?_)
  · obtain ⟨b, l, m, rfl, _⟩ := h
    rfl
  · obtain ⟨b, l, m, rfl, B, hm0, hm1, q⟩ := h
    refine ⟨_, pss_cons (ps_if (PW.pt (pw_and (pt_cmpR op_lt (pe_ix ix_list (pv 0) pe_int (fun _ _ => rfl)) (pv 1) (nomark _)) (pw_and1 (pt_cmpR op_lt (pe_ix ix_list (pv 0) pe_int (fun _ _ => rfl)) (pe_callB call_len_seq (by rfl) ml PySem.boot_len (pa_cons (pe_ix ix_list (pv 0) pe_int (fun _ _ => rfl)) pa_nil)) (nomark _)))))
        (pss_cons (ps_set (i := 2) scPull.nd rfl (.inl rfl) (pe_ix ix_list (pe_ix ix_list (pv 0) pe_int (fun _ _ => rfl)) (pe_ix ix_list (pv 0) pe_int (fun _ _ => rfl)) (fun _ _ => rfl)))
        (pss_cons (ps_asg (pe_op op_add (pe_ix ix_list (pv 0) pe_int (fun _ _ => rfl)) pe_int) (pg_sub (pv 0) pe_int set_list))
        (pss_cons (ps_asg pe_int (pg_sub (pv 0) pe_int set_list))
        (pss_one (ps_if (pt_cmpR op_ge (pv 2) (pe_op op_pow pe_int pe_int) (nomark _)) (pss_one (ps_asg (pv 2) (pg_sub (pv 0) pe_int set_list)))
          (pss_one (ps_asg (pe_op op_mod (pe_op op_add (pe_op op_add (pe_op op_mul (pe_ix ix_list (pv 0) pe_int (fun _ _ => rfl)) pe_int) (pe_op op_mul (pe_op op_mod (pv 2) pe_int) pe_int)) pe_int) pe_int) (pg_sub (pv 0) pe_int set_list))))))))
        pss_nil)
      (pss_cons (ps_if (pt_cmpR op_ge (pe_ix ix_list (pv 0) pe_int (fun _ _ => rfl)) (pv 1) (nomark _))
        (pss_cons (ps_set (i := 3) scPull.nd rfl (.inl rfl) (pe_op op_mod (pe_ix ix_list (pv 0) pe_int (fun _ _ => rfl)) (pv 1)))
        (pss_cons (ps_asg (pe_op op_fdiv (pe_ix ix_list (pv 0) pe_int (fun _ _ => rfl)) (pv 1)) (pg_sub (pv 0) pe_int set_list))
        (pss_one (ps_ret (pv 3))))) pss_nil)
      (pss_cons (ps_set (i := 4) scPull.nd rfl (.inl rfl) (pe_op op_mod (pe_op op_mul (pe_ix ix_list (pv 0) pe_int (fun _ _ => rfl)) (pe_ix ix_list (pv 0) pe_int (fun _ _ => rfl))) pe_int))
      (pss_cons (ps_asg (pe_op op_mod (pe_op op_add (pe_op op_add (pe_op op_mul (pv 4) pe_int) (pe_op op_mul (pe_ix ix_list (pv 0) pe_int (fun _ _ => rfl)) pe_int)) pe_int) pe_int) (pg_sub (pv 0) pe_int set_list))
      (pss_one (ps_ret (pe_op op_mod (pe_op op_add (pe_op op_fdiv (pe_ix ix_list (pv 0) pe_int (fun _ _ => rfl)) pe_int) (pe_op op_mul (pe_op op_mod (pe_ix ix_list (pv 0) pe_int (fun _ _ => rfl)) pe_int) pe_int)) (pv 1))))))), ?_⟩
    refine cut (fun σ' H' => ∃ y, σ' = [some (.ref b), some (.int m), y, none, none] ∧ Bag H' b l ∧ Kp b H H') (fun σ1 H1 hp => ?tail) (fun N hN => ?head)
    case head =>
      obtain ⟨xs, i, n, z, hb, hl, i0, n0, z0, z1⟩ := id B
      have nlb := bag_ne hb hl
      refine ⟨_, rfl, b, _, 2, .int n, rfl, rfl, SqL.of hb, rfl, _, rfl, _, _, rfl, rfl, _, rfl, ite2 (fun hlt => ?_) (fun _ => ?_)⟩
      · refine ⟨_, rfl, b, _, 1, .int i, rfl, rfl, SqL.of hb, rfl, _, rfl, b, _, 0, .ref l, rfl, rfl, SqL.of hb, rfl, l, _, rfl, .inl (SqL.of hl), _, _, rfl, rfl, _, rfl, ite2 (fun hlt2 => ?_) (fun _ => ?_)⟩
        · have hi : i < ((xs.map V.int).length : Int) := of_decide_eq_true hlt2
          rw [List.length_map] at hi
          obtain ⟨j, rfl⟩ : ∃ j : Nat, i = j := ⟨i.toNat, by omega⟩
          have hj : j < xs.length := by omega
          have gj : (xs.map V.int)[j]? = some (.int xs[j]) := by
            rw [List.getElem?_map, List.getElem?_eq_getElem hj]; rfl
          generalize xs[j] = c at gj
          refine ⟨_, rfl, b, _, 0, .ref l, rfl, rfl, SqL.of hb, rfl, _, rfl, b, _, 1, .int j, rfl, rfl, SqL.of hb, rfl, l, _, j, .int c, rfl, rfl, SqL.of hl, atI_nat gj, ?_⟩
          refine ⟨_, rfl, b, _, 1, .int j, rfl, rfl, SqL.of hb, rfl, _, _, rfl, rfl, _, rfl, b, _, 1, 1, rfl, rfl, hb, rfl, ?_⟩
          refine ⟨_, rfl, b, _, 2, 2, rfl, rfl, upd_same, rfl, ?_⟩
          rw [upd_upd]
          refine ⟨_, rfl, _, _, rfl, rfl, ⟨by decide, by decide, by decide⟩, _, _, rfl, rfl, _, rfl, ite2 (fun hge => ?_) (fun _ => ?_)⟩
          · refine ⟨_, rfl, _, rfl, b, _, 2, 2, rfl, rfl, upd_same, rfl, ?_⟩
            rw [upd_upd]
            refine hN _ _ ⟨_, rfl, ⟨xs, _, _, _, upd_same, by rw [upd_ne nlb]; exact hl, by omega, ?_, z0, z1⟩, Kp.set⟩
            have e := of_decide_eq_true hge
            have e2 : (0 : Int) ≤ 10 ^ (18 : Int).toNat := by decide
            omega
          · refine ⟨_, rfl, b, _, 3, .int z, rfl, rfl, SqL.of upd_same, rfl, _, _, rfl, rfl, .inl ⟨by omega, by omega⟩, _, rfl, _, _, rfl, rfl, (by dsimp only; decide), _, _, rfl, rfl, .inr ⟨by decide, by decide⟩, _, _, rfl, rfl, _, _, rfl, rfl, _, _, rfl, rfl, (by dsimp only; decide), _, rfl, b, _, 3, 3, rfl, rfl, upd_same, rfl, ?_⟩
            rw [upd_upd]
            exact hN _ _ ⟨_, rfl, ⟨xs, _, _, _, upd_same, by rw [upd_ne nlb]; exact hl, by omega, by decide, Int.emod_nonneg _ (by decide), Int.emod_lt_of_pos _ (by decide)⟩, Kp.set⟩
        · exact hN _ _ ⟨_, rfl, B, Kp.refl _ _⟩
      · exact hN _ _ ⟨_, rfl, B, Kp.refl _ _⟩
    case tail =>
      obtain ⟨y, rfl, ⟨xs, i, n, z, hb, hl, i0, n0, z0, z1⟩, kp⟩ := hp
      have nlb := bag_ne hb hl
      refine ⟨_, rfl, b, _, 2, .int n, rfl, rfl, SqL.of hb, rfl, _, rfl, _, _, rfl, rfl, _, rfl, ite2 (fun hge => ?_) (fun _ => ?_)⟩
      · refine ⟨_, rfl, b, _, 2, .int n, rfl, rfl, SqL.of hb, rfl, _, rfl, _, _, rfl, rfl, hm0, ?_⟩
        refine ⟨_, rfl, b, _, 2, .int n, rfl, rfl, SqL.of hb, rfl, _, rfl, _, _, rfl, rfl, ⟨hm0, hm1⟩, _, rfl, b, _, 2, 2, rfl, rfl, hb, rfl, ?_⟩
        refine ⟨_, rfl, ?_⟩
        exact q _ _ (kp.trans Kp.set) ⟨xs, _, _, _, upd_same, by rw [upd_ne nlb]; exact hl, i0, Int.ediv_nonneg n0 (by omega), z0, z1⟩ (Int.emod_nonneg _ (by omega)) (Int.emod_lt_of_pos _ hm0)
      · refine ⟨_, rfl, b, _, 3, .int z, rfl, rfl, SqL.of hb, rfl, _, rfl, b, _, 3, .int z, rfl, rfl, SqL.of hb, rfl, _, _, rfl, rfl, .inl ⟨by omega, by omega⟩, _, _, rfl, rfl, (by dsimp only; decide), ?_⟩
        have w0 : 0 ≤ z * z % 2147483549 := Int.emod_nonneg _ (by decide)
        have w1 : z * z % 2147483549 < 2147483549 := Int.emod_lt_of_pos _ (by decide)
        refine ⟨_, rfl, _, _, rfl, rfl, .inl ⟨by omega, by omega⟩, _, rfl, b, _, 3, .int z, rfl, rfl, SqL.of hb, rfl, _, _, rfl, rfl, .inl ⟨by omega, by omega⟩, _, _, rfl, rfl, _, _, rfl, rfl, _, _, rfl, rfl, (by dsimp only; decide), _, rfl, b, _, 3, 3, rfl, rfl, hb, rfl, ?_⟩
        refine ⟨_, rfl, b, _, 3, _, rfl, rfl, SqL.of upd_same, rfl, _, _, rfl, rfl, ⟨by decide, by decide⟩, _, rfl, b, _, 3, _, rfl, rfl, SqL.of upd_same, rfl, _, _, rfl, rfl, (by dsimp only; decide), _, _, rfl, rfl, .inr ⟨by decide, by decide⟩, _, _, rfl, rfl, _, rfl, _, _, rfl, rfl, hm0, ?_⟩
        exact q _ _ (kp.trans Kp.set) ⟨xs, _, _, _, upd_same, by rw [upd_ne nlb]; exact hl, i0, n0, Int.emod_nonneg _ (by decide), Int.emod_lt_of_pos _ (by decide)⟩ (Int.emod_nonneg _ (by omega)) (Int.emod_lt_of_pos _ hm0)
end

abbrev sMixed : Stmt := topS 47
theorem scMixed : FnScope ["_law_bag_here", "_law_things", "_law_left", "_law_found", "_law_turn"] ["_law_bag_here", "_law_things"] (defScope sMixed) := ⟨rfl, rfl, rfl, by decide +kernel, rfl, by decide +kernel, by decide +kernel⟩
section
variable {P : Program} {w : World} {K : PySem.W.Frag} {mg : Str → Option Value} {base : Heap}
theorem ok_of {f fP : Addr} {fd fdP : FuncData} (F : Fun K "_law_of" "_law_of" sOf f fd) (FP : Fun K "_law_pull" "_law_pull" sPull fP fdP) (bP : Binds K fdP ["_law_bag_here", "_law_many"] []) (gP : mg "_law_pull" = some (.ref fP)) (ml : mg "len" = none) : FnOk P w K mg base CX0 2 f fd ["_law_bag_here", "_law_things"] (spOf K) := by
  have GP : FnOk P w K mg base CX0 1 fP fdP ["_law_bag_here", "_law_many"] spPull := ok_pull FP ml
  refine F.ok scOf (fun vs H Q E h => ?_) (fun cdv A outer s H vs Q E hr h => ?_)
  · obtain ⟨b, l, t, xs, rfl, _⟩ := h
    rfl
  · obtain ⟨b, l, t, xs, rfl, B, hT, h0, h1, q⟩ := h
    refine ⟨_, pss_one (ps_ret (pe_ix ix_seq (pv 1) (pe_call GP hr (by rfl) gP FP.kp bP .nil pass0 (pa_cons (pv 0) (pa_cons (pe_callB call_len (by rfl) ml PySem.boot_len (pa_cons (pv 1) pa_nil)) pa_nil))) (fun _ _ => rfl))), ?_⟩
    rcases hT with ⟨a, rfl, nab, hS⟩ | ⟨z, rfl, hz, rfl⟩
    · refine ⟨_, rfl, _, rfl, _, rfl, _, _, rfl, .inl ⟨_, hS, rfl⟩, b, l, _, rfl, B, by omega, by omega, fun H' d kp B' d0 d1 => ?_⟩
      obtain ⟨j, rfl⟩ : ∃ j : Nat, d = j := ⟨d.toNat, by omega⟩
      have hj : j < xs.length := by omega
      exact .inl ⟨a, xs, _, xs[j], rfl, rfl, kp.seq nab hS, atI_nat (List.getElem?_eq_getElem hj), q _ _ kp B' (List.getElem_mem hj)⟩
    · rw [List.length_map, Array.length_toList] at h0 h1
      refine ⟨_, rfl, _, rfl, _, rfl, _, _, rfl, ⟨hz, rfl⟩, b, l, _, rfl, B, ?_, ?_, fun H' d kp B' d0 d1 => ?_⟩
      · show (0 : Int) < ((z.cps.size : Nat) : Int)
        omega
      · show ((z.cps.size : Nat) : Int) < 1073741824
        omega
      · have d2 : d < ((z.cps.size : Nat) : Int) := d1
        obtain ⟨j, rfl⟩ : ∃ j : Nat, d = j := ⟨d.toNat, by omega⟩
        have hj : j < z.cps.toList.length := by rw [Array.length_toList]; omega
        refine .inr (.inr ⟨z, _, z.cps.toList[j], rfl, rfl, hz, atI_nat (List.getElem?_eq_getElem hj), q _ _ kp B' ?_⟩)
        exact List.mem_map.mpr ⟨_, List.getElem_mem hj, rfl⟩
theorem ok_mixed {f fP : Addr} {fd fdP : FuncData} (F : Fun K "_law_mixed" "_law_mixed" sMixed f fd) (FP : Fun K "_law_pull" "_law_pull" sPull fP fdP) (bP : Binds K fdP ["_law_bag_here", "_law_many"] []) (gP : mg "_law_pull" = some (.ref fP)) (ml : mg "len" = none)
    (mli : mg "list" = none) (mr : mg "range" = none) : FnOk P w K mg base CX0 2 f fd ["_law_bag_here", "_law_things"] (spMixed K) := by
  have GP : FnOk P w K mg base CX0 1 fP fdP ["_law_bag_here", "_law_many"] spPull := ok_pull FP ml
  refine F.ok scMixed (fun vs H Q E h => ?_) (fun cdv A outer s H vs Q E hr h => ?_)
  · obtain ⟨b, l, a, xs, rfl, _⟩ := h
    rfl
  · obtain ⟨b, l, a, xs, rfl, B, nab, hS, hlen, q⟩ := h
    refine ⟨_, pss_cons (ps_par (i := 2) (j := 3) (by rfl) scMixed.nd rfl rfl (by decide) rfl rfl (pa_cons (pe_callTy call_list_of (by rfl) mli boot_list (pa_cons (pv 1) pa_nil)) (pa_cons (pe_lst pa_nil) pa_nil)) (by rfl))
      (pss_cons (ps_for PassesOwn.never rfl (pi_range1 (by rfl) mr (pa_cons (pe_callB call_len_seq (by rfl) ml PySem.boot_len (pa_cons (pv 1) pa_nil)) pa_nil)) (pg_name (i := 4) scMixed.nd rfl (.inl rfl))
        (pss_one (ps_expr (pe_bm PySem.F.plainAttrs_list PySem.F.slot_list_append PySem.F.type_list_append mt_append (pv 3) (pa_cons (pe_bm PySem.F.plainAttrs_list PySem.F.slot_list_pop PySem.F.type_list_pop mt_popAt (pv 2)
          (pa_cons (pe_call GP hr (by rfl) gP FP.kp bP .nil pass0 (pa_cons (pv 0) (pa_cons (pe_callB call_len_seq (by rfl) ml PySem.boot_len (pa_cons (pv 2) pa_nil)) pa_nil))) pa_nil)) pa_nil)))))
      (pss_one (ps_ret (pv 3)))), ?_⟩
    refine ⟨_, rfl, a, xs, rfl, .inl hS, fun p np => ⟨Nat.zero_le _, fun o no => ⟨_, _, rfl, ?_⟩⟩⟩
    have npo : p ≠ o := fun e => by rw [e] at no; rw [← e, upd_same] at no; cases no
    have no0 : H o = none := by rw [upd_ne npo.symm] at no; exact no
    have k2 : Kp b H (upd (upd H p (.lst xs)) o (.lst [])) := (Kp.new np).put no0
    have B2 : Bag (upd (upd H p (.lst xs)) o (.lst [])) b l := (B.new np).put (B.nb no0) (B.nl no0)
    have ea : (((xs.length : Nat) : Int)).toNat = xs.length := by omega
    refine ⟨_, rfl, a, xs, rfl, .inl (k2.seq nab hS), _, rfl, by omega, by omega, ?_⟩
    rw [ea]
    refine for_range (lo := 0) (n := xs.length) (fun i σ H' => ∃ (ys zs : List V) (y : Option V), σ = [some (.ref b), some (.ref a), some (.ref p), some (.ref o), y] ∧ Kp b H H' ∧ Bag H' b l ∧ H' p = some (.lst zs) ∧ H' o = some (.lst ys) ∧ (ys ++ zs).Perm xs ∧ ys.length = i)
      ⟨[], xs, none, rfl, k2, B2, by rw [upd_ne npo, upd_same], upd_same, .refl _, rfl⟩ ?_ ?_
    · rintro i σ H' hi ⟨ys, zs, y, rfl, kp, B', hp, ho, pm, hy⟩
      have hzl : ys.length + zs.length = xs.length := by
        have e := pm.length_eq
        rw [List.length_append] at e
        exact e
      refine ⟨_, rfl, .inl ⟨rfl, _, SqL.of ho⟩, _, rfl, .inl ⟨rfl, _, SqL.of hp⟩, _, rfl, _, rfl, p, zs, rfl, .inl (SqL.of hp), b, l, _, rfl, B', by omega, by omega, fun H1 d kp1 B1 d0 d1 => ?_⟩
      obtain ⟨j, rfl⟩ : ∃ j : Nat, d = j := ⟨d.toNat, by omega⟩
      have hj : j < zs.length := by omega
      have hp1 : H1 p = some (.lst zs) := kp1 _ _ (B.nb np) hp
      have ho1 : H1 o = some (.lst ys) := kp1 _ _ (B.nb no0) ho
      refine ⟨p, zs, _, j, zs[j], rfl, rfl, hp1, by omega, by omega, ?_, List.getElem?_eq_getElem hj, ?_⟩
      · exact (ixN_seq (n := zs.length) (i := (j : Int)) (j := j) (by unfold ixN; rw [if_pos (by omega), if_pos (by omega)]; rfl)).1
      · refine ⟨o, _, _, rfl, rfl, by rw [upd_ne npo.symm]; exact ho1, small1000 (by omega), ?_⟩
        refine ⟨ys ++ [zs[j]], zs.eraseIdx j, _, rfl, ((kp.trans kp1).put np).put no0, (B1.put (B.nb np) (B.nl np)).put (B.nb no0) (B.nl no0), ?_, upd_same, ?_, ?_⟩
        · rw [upd_ne npo, upd_same]
        · refine List.Perm.trans ?_ pm
          rw [List.append_assoc]
          exact List.Perm.append_left _ (erasePm zs j hj)
        · rw [List.length_append, hy]; rfl
    · rintro σ H' ⟨ys, zs, y, rfl, kp, B', hp, ho, pm, hy⟩
      have e0 : zs = [] := by
        have e := pm.length_eq
        rw [List.length_append] at e
        exact List.eq_nil_of_length_eq_zero (by omega)
      subst e0
      rw [List.append_nil] at pm
      exact ⟨_, rfl, q _ o ys kp B' no0 ho pm⟩
end

abbrev sSame : Stmt := topS 48
theorem scSame : FnScope ["_law_found", "_law_due", "_law_one", "_law_other"] ["_law_found", "_law_due"] (defScope sSame) := ⟨rfl, rfl, rfl, by decide +kernel, rfl, by decide +kernel, by decide +kernel⟩
structure SameT (mg : Str → Option Value) : Prop where
  isi : mg "isinstance" = none
  dict : mg "dict" = none
  list : mg "list" = none
  tuple : mg "tuple" = none
  bool : mg "bool" = none
  int : mg "int" = none
  str : mg "str" = none
  len : mg "len" = none
  all : mg "all" = none
  zip : mg "zip" = none
section
variable {P : Program} {w : World} {K : PySem.W.Frag} {mg : Str → Option Value} {base : Heap}
theorem ok_same0 {f : Addr} {fd : FuncData} (F : Fun K "_law_same" "_law_same" sSame f fd) (T : SameT mg) : FnOk P w K mg base CX0 (0 + 1) f fd ["_law_found", "_law_due"] (spSame (0)) := by
  refine F.ok scSame (fun vs H Q E h => ?_) (fun cdv A outer s H vs Q E hr h => ?_)
  · obtain ⟨x, y, rfl, _⟩ := h
    rfl
  · obtain ⟨x, y, rfl, he, q⟩ := h
    refine ⟨_, pss_cons (ps_if (PW.pt (pw_or (pt_cmpR op_isN (pv 1) pe_non (nomark _)) (pw_or1 (pt_cmpR op_isN (pv 0) pe_non (nomark _))))) (pss_one (ps_ret (pe_and (pe_cmpR op_isN (pv 0) pe_non (nomark _)) (pe_one (pe_cmpR op_isN (pv 1) pe_non (nomark _)))))) pss_nil)
      (pss_cons (ps_if (pt_val (pe_callB call_isi (by rfl) T.isi boot_isinstance (pa_cons (pv 1) (pa_cons (pe_bltn (v := .ty "dict") (by rfl) T.dict (by decide +kernel) rfl) pa_nil)))) pss_never pss_nil)
      (pss_cons (ps_if (pt_val (pe_callB call_isiT (by rfl) T.isi boot_isinstance (pa_cons (pv 1) (pa_cons (pe_tup (pa_cons (pe_bltn (v := .ty "list") (by rfl) T.list (by decide +kernel) rfl) (pa_cons (pe_bltn (v := .ty "tuple") (by rfl) T.tuple (by decide +kernel) rfl) pa_nil))) pa_nil)))) pss_never pss_nil)
      (pss_cons (ps_if (PW.pt (pw_or (pt_cmpR op_ne (pe_callB call_isi (by rfl) T.isi boot_isinstance (pa_cons (pv 0) (pa_cons (pe_bltn (v := .ty "bool") (by rfl) T.bool (by decide +kernel) rfl) pa_nil))) (pe_callB call_isi (by rfl) T.isi boot_isinstance (pa_cons (pv 1) (pa_cons (pe_bltn (v := .ty "bool") (by rfl) T.bool (by decide +kernel) rfl) pa_nil))) (nomark _))
          (pw_or1 (pt_cmpR op_ne (pe_callB call_isi (by rfl) T.isi boot_isinstance (pa_cons (pv 0) (pa_cons (pe_bltn (v := .ty "int") (by rfl) T.int (by decide +kernel) rfl) pa_nil))) (pe_callB call_isi (by rfl) T.isi boot_isinstance (pa_cons (pv 1) (pa_cons (pe_bltn (v := .ty "int") (by rfl) T.int (by decide +kernel) rfl) pa_nil))) (nomark _))))) pss_never pss_nil)
      (pss_one (ps_ret (pe_and (pe_cmpR op_eq (pe_callB call_isi (by rfl) T.isi boot_isinstance (pa_cons (pv 0) (pa_cons (pe_bltn (v := .ty "str") (by rfl) T.str (by decide +kernel) rfl) pa_nil))) (pe_callB call_isi (by rfl) T.isi boot_isinstance (pa_cons (pv 1) (pa_cons (pe_bltn (v := .ty "str") (by rfl) T.str (by decide +kernel) rfl) pa_nil))) (nomark _)) (pe_one (pe_cmpR op_eq (pv 0) (pv 1) (nomark _))))))))), ?_⟩
    rcases he with _ | ⟨_, bb⟩ | ⟨_, i⟩ | ⟨_, z⟩
    · refine ⟨_, rfl, rfl, _, rfl, iteT ⟨_, rfl, rfl, _, rfl, ifT rfl ⟨_, rfl, rfl, ?_⟩⟩⟩
      exact q _ (Same.refl _)
    · refine ⟨_, rfl, rfl, _, rfl, ifF (decide_eq_false (by intro e; cases e)) ⟨_, rfl, rfl, _, rfl, ifF (decide_eq_false (by intro e; cases e)) ?_⟩⟩
      refine ⟨_, rfl, _, _, _, _, false, rfl, .ty "dict", .base (.bl bb), kit_ty (by decide +kernel), _, rfl, iteF ?_⟩
      refine ⟨_, rfl, (by show 2 ≤ sizeLine; decide), fun t ht => ⟨_, t, _, _, [.type "list", .type "tuple"], false, rfl, upd_same, .cons (.ty _) (.cons (.ty _) .nil), .base (.bl bb), kit_list (by decide +kernel) (fun _ => by decide +kernel), _, rfl, iteF ?_⟩⟩
      refine ⟨_, rfl, _, _, _, _, true, rfl, .ty "bool", .base (.bl bb), kit_ty (by decide +kernel), _, rfl, _, _, _, _, true, rfl, .ty "bool", .base (.bl bb), kit_ty (by decide +kernel), rfl, _, rfl, ifF (by decide) ⟨_, rfl, _, _, _, _, true, rfl, .ty "int", .base (.bl bb), kit_ty (by decide +kernel), _, rfl, _, _, _, _, true, rfl, .ty "int", .base (.bl bb), kit_ty (by decide +kernel), rfl, _, rfl, ifF (by decide) ?_⟩⟩
      refine ⟨_, rfl, _, _, _, _, false, rfl, .ty "str", .base (.bl bb), kit_ty (by decide +kernel), _, rfl, _, _, _, _, false, rfl, .ty "str", .base (.bl bb), kit_ty (by decide +kernel), rfl, _, rfl, ifT (by decide) ⟨_, rfl, _, rfl, rfl, ?_⟩⟩
      rw [decide_eq_true rfl]
      exact q _ (same_upd ht)
    · refine ⟨_, rfl, rfl, _, rfl, ifF (decide_eq_false (by intro e; cases e)) ⟨_, rfl, rfl, _, rfl, ifF (decide_eq_false (by intro e; cases e)) ?_⟩⟩
      refine ⟨_, rfl, _, _, _, _, false, rfl, .ty "dict", .base (.int i), kit_ty (by decide +kernel), _, rfl, iteF ?_⟩
      refine ⟨_, rfl, (by show 2 ≤ sizeLine; decide), fun t ht => ⟨_, t, _, _, [.type "list", .type "tuple"], false, rfl, upd_same, .cons (.ty _) (.cons (.ty _) .nil), .base (.int i), kit_list (by decide +kernel) (fun _ => by decide +kernel), _, rfl, iteF ?_⟩⟩
      refine ⟨_, rfl, _, _, _, _, false, rfl, .ty "bool", .base (.int i), kit_ty (by decide +kernel), _, rfl, _, _, _, _, false, rfl, .ty "bool", .base (.int i), kit_ty (by decide +kernel), rfl, _, rfl, ifF (by decide) ⟨_, rfl, _, _, _, _, true, rfl, .ty "int", .base (.int i), kit_ty (by decide +kernel), _, rfl, _, _, _, _, true, rfl, .ty "int", .base (.int i), kit_ty (by decide +kernel), rfl, _, rfl, ifF (by decide) ?_⟩⟩
      refine ⟨_, rfl, _, _, _, _, false, rfl, .ty "str", .base (.int i), kit_ty (by decide +kernel), _, rfl, _, _, _, _, false, rfl, .ty "str", .base (.int i), kit_ty (by decide +kernel), rfl, _, rfl, ifT (by decide) ⟨_, rfl, _, rfl, rfl, ?_⟩⟩
      rw [decide_eq_true rfl]
      exact q _ (same_upd ht)
    · refine ⟨_, rfl, rfl, _, rfl, ifF (decide_eq_false (by intro e; cases e)) ⟨_, rfl, rfl, _, rfl, ifF (decide_eq_false (by intro e; cases e)) ?_⟩⟩
      refine ⟨_, rfl, _, _, _, _, false, rfl, .ty "dict", .base (.str z), kit_ty (by decide +kernel), _, rfl, iteF ?_⟩
      refine ⟨_, rfl, (by show 2 ≤ sizeLine; decide), fun t ht => ⟨_, t, _, _, [.type "list", .type "tuple"], false, rfl, upd_same, .cons (.ty _) (.cons (.ty _) .nil), .base (.str z), kit_list (by decide +kernel) (fun _ => by decide +kernel), _, rfl, iteF ?_⟩⟩
      refine ⟨_, rfl, _, _, _, _, false, rfl, .ty "bool", .base (.str z), kit_ty (by decide +kernel), _, rfl, _, _, _, _, false, rfl, .ty "bool", .base (.str z), kit_ty (by decide +kernel), rfl, _, rfl, ifF (by decide) ⟨_, rfl, _, _, _, _, false, rfl, .ty "int", .base (.str z), kit_ty (by decide +kernel), _, rfl, _, _, _, _, false, rfl, .ty "int", .base (.str z), kit_ty (by decide +kernel), rfl, _, rfl, ifF (by decide) ?_⟩⟩
      refine ⟨_, rfl, _, _, _, _, true, rfl, .ty "str", .base (.str z), kit_ty (by decide +kernel), _, rfl, _, _, _, _, true, rfl, .ty "str", .base (.str z), kit_ty (by decide +kernel), rfl, _, rfl, ifT (by decide) ⟨_, rfl, _, rfl, rfl, ?_⟩⟩
      rw [decide_eq_true rfl]
      exact q _ (same_upd ht)
theorem ok_sameS {f : Addr} {fd : FuncData} {n : Nat} (G : FnOk P w K mg base CX0 (n + 1) f fd ["_law_found", "_law_due"] (spSame n)) (gS : mg "_law_same" = some (.ref f)) (bS : Binds K fd ["_law_found", "_law_due"] []) (F : Fun K "_law_same" "_law_same" sSame f fd) (T : SameT mg) : FnOk P w K mg base CX0 (n + 1 + 1) f fd ["_law_found", "_law_due"] (spSame (n + 1)) := by
  refine F.ok scSame (fun vs H Q E h => ?_) (fun cdv A outer s H vs Q E hr h => ?_)
  · obtain ⟨x, y, rfl, _⟩ := h
    rfl
  · obtain ⟨x, y, rfl, he, q⟩ := h
    refine ⟨_, pss_cons (ps_if (PW.pt (pw_or (pt_cmpR op_isN (pv 1) pe_non (nomark _)) (pw_or1 (pt_cmpR op_isN (pv 0) pe_non (nomark _))))) (pss_one (ps_ret (pe_and (pe_cmpR op_isN (pv 0) pe_non (nomark _)) (pe_one (pe_cmpR op_isN (pv 1) pe_non (nomark _)))))) pss_nil)
      (pss_cons (ps_if (pt_val (pe_callB call_isi (by rfl) T.isi boot_isinstance (pa_cons (pv 1) (pa_cons (pe_bltn (v := .ty "dict") (by rfl) T.dict (by decide +kernel) rfl) pa_nil)))) pss_never pss_nil)
      (pss_cons (ps_if (pt_val (pe_callB call_isiT (by rfl) T.isi boot_isinstance (pa_cons (pv 1) (pa_cons (pe_tup (pa_cons (pe_bltn (v := .ty "list") (by rfl) T.list (by decide +kernel) rfl) (pa_cons (pe_bltn (v := .ty "tuple") (by rfl) T.tuple (by decide +kernel) rfl) pa_nil))) pa_nil)))) (pss_cons (ps_if (PW.pt (pw_or (pt_cmpR op_ne (pe_callB call_isi (by rfl) T.isi boot_isinstance (pa_cons (pv 0) (pa_cons (pe_bltn (v := .ty "list") (by rfl) T.list (by decide +kernel) rfl) pa_nil))) (pe_callB call_isi (by rfl) T.isi boot_isinstance (pa_cons (pv 1) (pa_cons (pe_bltn (v := .ty "list") (by rfl) T.list (by decide +kernel) rfl) pa_nil))) (nomark _)) (pw_or1 (pt_cmpR op_ne (pe_callB call_isi (by rfl) T.isi boot_isinstance (pa_cons (pv 0) (pa_cons (pe_bltn (v := .ty "tuple") (by rfl) T.tuple (by decide +kernel) rfl) pa_nil))) (pe_callB call_isi (by rfl) T.isi boot_isinstance (pa_cons (pv 1) (pa_cons (pe_bltn (v := .ty "tuple") (by rfl) T.tuple (by decide +kernel) rfl) pa_nil))) (nomark _))))) pss_never pss_nil)
        (pss_one (ps_ret (pe_and (pe_cmpR op_eq (pe_callB call_len_seq (by rfl) T.len PySem.boot_len (pa_cons (pv 0) pa_nil)) (pe_callB call_len_seq (by rfl) T.len PySem.boot_len (pa_cons (pv 1) pa_nil)) (nomark _))
          (pe_one (pe_callB (cr_all rfl) (by rfl) T.all boot_all (pa_cons (pe_lc (own := [("_law_one", 2), ("_law_other", 3)]) (g := gTup K 2 (gCons (gName 2) (gCons (gName 3) gNil))) (tt := tYes) rfl scSame.nd (RZ.pi_zipA (by rfl) T.zip (pa_cons (pv 0) (pa_cons (pv 1) pa_nil)))
            (blkOk_by (own := [("_law_one", 2), ("_law_other", 3)]) (N := ["_law_found", "_law_due", "_law_one", "_law_other"]) (sc := defScope sSame) (by decide +kernel))
            (fun _ _ _ _ _ => pg_tup rfl (pgs_cons (pg_name (i := 2) scSame.nd rfl (Or.inl rfl)) (pgs_cons (pg_name (i := 3) scSame.nd rfl (Or.inl rfl)) pgs_nil))) (fun _ _ _ _ _ => pts_nil)
            (fun _ _ _ _ _ => pe_call G hr (by rfl) gS F.kp bS .nil pass0 (pa_cons (pv 2) (pa_cons (pv 3) pa_nil)))) pa_nil))))))) pss_nil)
      (pss_cons (ps_if (PW.pt (pw_or (pt_cmpR op_ne (pe_callB call_isi (by rfl) T.isi boot_isinstance (pa_cons (pv 0) (pa_cons (pe_bltn (v := .ty "bool") (by rfl) T.bool (by decide +kernel) rfl) pa_nil))) (pe_callB call_isi (by rfl) T.isi boot_isinstance (pa_cons (pv 1) (pa_cons (pe_bltn (v := .ty "bool") (by rfl) T.bool (by decide +kernel) rfl) pa_nil))) (nomark _))
          (pw_or1 (pt_cmpR op_ne (pe_callB call_isi (by rfl) T.isi boot_isinstance (pa_cons (pv 0) (pa_cons (pe_bltn (v := .ty "int") (by rfl) T.int (by decide +kernel) rfl) pa_nil))) (pe_callB call_isi (by rfl) T.isi boot_isinstance (pa_cons (pv 1) (pa_cons (pe_bltn (v := .ty "int") (by rfl) T.int (by decide +kernel) rfl) pa_nil))) (nomark _))))) pss_never pss_nil)
      (pss_one (ps_ret (pe_and (pe_cmpR op_eq (pe_callB call_isi (by rfl) T.isi boot_isinstance (pa_cons (pv 0) (pa_cons (pe_bltn (v := .ty "str") (by rfl) T.str (by decide +kernel) rfl) pa_nil))) (pe_callB call_isi (by rfl) T.isi boot_isinstance (pa_cons (pv 1) (pa_cons (pe_bltn (v := .ty "str") (by rfl) T.str (by decide +kernel) rfl) pa_nil))) (nomark _)) (pe_one (pe_cmpR op_eq (pv 0) (pv 1) (nomark _))))))))), ?_⟩
    rcases he with _ | ⟨_, bb⟩ | ⟨_, i⟩ | ⟨_, z⟩ | ⟨hp, hq, hl, hz, hh⟩ | ⟨hp, hq, hl, hz, hh⟩
    · refine ⟨_, rfl, rfl, _, rfl, iteT ⟨_, rfl, rfl, _, rfl, ifT rfl ⟨_, rfl, rfl, ?_⟩⟩⟩
      exact q _ (Same.refl _)
    · refine ⟨_, rfl, rfl, _, rfl, ifF (decide_eq_false (by intro e; cases e)) ⟨_, rfl, rfl, _, rfl, ifF (decide_eq_false (by intro e; cases e)) ?_⟩⟩
      refine ⟨_, rfl, _, _, _, _, false, rfl, .ty "dict", .base (.bl bb), kit_ty (by decide +kernel), _, rfl, iteF ?_⟩
      refine ⟨_, rfl, (by show 2 ≤ sizeLine; decide), fun t ht => ⟨_, t, _, _, [.type "list", .type "tuple"], false, rfl, upd_same, .cons (.ty _) (.cons (.ty _) .nil), .base (.bl bb), kit_list (by decide +kernel) (fun _ => by decide +kernel), _, rfl, iteF ?_⟩⟩
      refine ⟨_, rfl, _, _, _, _, true, rfl, .ty "bool", .base (.bl bb), kit_ty (by decide +kernel), _, rfl, _, _, _, _, true, rfl, .ty "bool", .base (.bl bb), kit_ty (by decide +kernel), rfl, _, rfl, ifF (by decide) ⟨_, rfl, _, _, _, _, true, rfl, .ty "int", .base (.bl bb), kit_ty (by decide +kernel), _, rfl, _, _, _, _, true, rfl, .ty "int", .base (.bl bb), kit_ty (by decide +kernel), rfl, _, rfl, ifF (by decide) ?_⟩⟩
      refine ⟨_, rfl, _, _, _, _, false, rfl, .ty "str", .base (.bl bb), kit_ty (by decide +kernel), _, rfl, _, _, _, _, false, rfl, .ty "str", .base (.bl bb), kit_ty (by decide +kernel), rfl, _, rfl, ifT (by decide) ⟨_, rfl, _, rfl, rfl, ?_⟩⟩
      rw [decide_eq_true rfl]
      exact q _ (same_upd ht)
    · refine ⟨_, rfl, rfl, _, rfl, ifF (decide_eq_false (by intro e; cases e)) ⟨_, rfl, rfl, _, rfl, ifF (decide_eq_false (by intro e; cases e)) ?_⟩⟩
      refine ⟨_, rfl, _, _, _, _, false, rfl, .ty "dict", .base (.int i), kit_ty (by decide +kernel), _, rfl, iteF ?_⟩
      refine ⟨_, rfl, (by show 2 ≤ sizeLine; decide), fun t ht => ⟨_, t, _, _, [.type "list", .type "tuple"], false, rfl, upd_same, .cons (.ty _) (.cons (.ty _) .nil), .base (.int i), kit_list (by decide +kernel) (fun _ => by decide +kernel), _, rfl, iteF ?_⟩⟩
      refine ⟨_, rfl, _, _, _, _, false, rfl, .ty "bool", .base (.int i), kit_ty (by decide +kernel), _, rfl, _, _, _, _, false, rfl, .ty "bool", .base (.int i), kit_ty (by decide +kernel), rfl, _, rfl, ifF (by decide) ⟨_, rfl, _, _, _, _, true, rfl, .ty "int", .base (.int i), kit_ty (by decide +kernel), _, rfl, _, _, _, _, true, rfl, .ty "int", .base (.int i), kit_ty (by decide +kernel), rfl, _, rfl, ifF (by decide) ?_⟩⟩
      refine ⟨_, rfl, _, _, _, _, false, rfl, .ty "str", .base (.int i), kit_ty (by decide +kernel), _, rfl, _, _, _, _, false, rfl, .ty "str", .base (.int i), kit_ty (by decide +kernel), rfl, _, rfl, ifT (by decide) ⟨_, rfl, _, rfl, rfl, ?_⟩⟩
      rw [decide_eq_true rfl]
      exact q _ (same_upd ht)
    · refine ⟨_, rfl, rfl, _, rfl, ifF (decide_eq_false (by intro e; cases e)) ⟨_, rfl, rfl, _, rfl, ifF (decide_eq_false (by intro e; cases e)) ?_⟩⟩
      refine ⟨_, rfl, _, _, _, _, false, rfl, .ty "dict", .base (.str z), kit_ty (by decide +kernel), _, rfl, iteF ?_⟩
      refine ⟨_, rfl, (by show 2 ≤ sizeLine; decide), fun t ht => ⟨_, t, _, _, [.type "list", .type "tuple"], false, rfl, upd_same, .cons (.ty _) (.cons (.ty _) .nil), .base (.str z), kit_list (by decide +kernel) (fun _ => by decide +kernel), _, rfl, iteF ?_⟩⟩
      refine ⟨_, rfl, _, _, _, _, false, rfl, .ty "bool", .base (.str z), kit_ty (by decide +kernel), _, rfl, _, _, _, _, false, rfl, .ty "bool", .base (.str z), kit_ty (by decide +kernel), rfl, _, rfl, ifF (by decide) ⟨_, rfl, _, _, _, _, false, rfl, .ty "int", .base (.str z), kit_ty (by decide +kernel), _, rfl, _, _, _, _, false, rfl, .ty "int", .base (.str z), kit_ty (by decide +kernel), rfl, _, rfl, ifF (by decide) ?_⟩⟩
      refine ⟨_, rfl, _, _, _, _, true, rfl, .ty "str", .base (.str z), kit_ty (by decide +kernel), _, rfl, _, _, _, _, true, rfl, .ty "str", .base (.str z), kit_ty (by decide +kernel), rfl, _, rfl, ifT (by decide) ⟨_, rfl, _, rfl, rfl, ?_⟩⟩
      rw [decide_eq_true rfl]
      exact q _ (same_upd ht)
    · rename_i p' q' xs ys
      refine ⟨_, rfl, rfl, _, rfl, ifF (decide_eq_false (by intro e; cases e)) ⟨_, rfl, rfl, _, rfl, ifF (decide_eq_false (by intro e; cases e)) ?_⟩⟩
      refine ⟨_, rfl, _, _, _, _, false, rfl, .ty "dict", .base (.lst hq), kit_ty (by decide +kernel), _, rfl, iteF ?_⟩
      refine ⟨_, rfl, (by show 2 ≤ sizeLine; decide), fun t ht => ⟨_, t, _, _, [.type "list", .type "tuple"], true, rfl, upd_same, .cons (.ty _) (.cons (.ty _) .nil), .base (.lst (same_upd ht _ _ hq)), kit_list (by decide +kernel) (fun e => by cases e), _, rfl, iteT ?_⟩⟩
      have s1 : Same H (upd H t (.tup [.ty "list", .ty "tuple"])) := same_upd ht
      have hp1 := s1 _ _ hp
      have hq1 := s1 _ _ hq
      refine ⟨_, rfl, _, _, _, _, true, rfl, .ty "list", .base (.lst hp1), kit_ty (by decide +kernel), _, rfl, _, _, _, _, true, rfl, .ty "list", .base (.lst hq1), kit_ty (by decide +kernel), rfl, _, rfl, ifF (by decide) ⟨_, rfl, _, _, _, _, false, rfl, .ty "tuple", .base (.lst hp1), kit_ty (by decide +kernel), _, rfl, _, _, _, _, false, rfl, .ty "tuple", .base (.lst hq1), kit_ty (by decide +kernel), rfl, _, rfl, ifF (by decide) ?_⟩⟩
      refine ⟨_, rfl, p', xs, rfl, .inl (SqL.of hp1), _, rfl, q', ys, rfl, .inl (SqL.of hq1), rfl, _, rfl, ifT (decide_eq_true (by rw [hl])) ?_⟩
      refine ⟨_, rfl, _, rfl, p', q', xs, ys, rfl, .inl ⟨SqL.of hp1, SqL.of hq1, fun D hD => ?_⟩⟩
      have fD := s1.free hD
      refine lc_it (walk_zip (K := K) (a := p') (b := q') (xs := xs) (ys := ys) (n := xs.length) (by omega)) (fun i H' => Same H H' ∧ H' D = some (.lst ((List.replicate i true).map V.bl))) ⟨same_put s1 fD, upd_same⟩
        (fun i H' _ hv => ⟨SqL.of (hv.1 _ _ hp), SqL.of (hv.1 _ _ hq)⟩) ?_ ?_
      · rintro i v H' H2 hi ⟨sm, hDl⟩ ⟨t2, a1, a2, rfl, ht2, rfl, e1, e2⟩
        have s2 : Same H' (upd H' t2 (.tup [a1, a2])) := same_upd ht2
        refine ⟨t2, _, rfl, .inl (.inl upd_same), rfl, a1, [a2], rfl, a2, [], rfl, rfl, rfl, ?_⟩
        refine ⟨_, rfl, _, rfl, a1, a2, rfl, (hh i a1 a2 e1 e2).same (sm.trans s2), fun H3 s3 => ?_⟩
        refine ⟨_, s3 _ _ (s2 _ _ hDl), ?_, same_put (sm.trans (s2.trans s3)) fD, ?_⟩
        · rw [List.length_map, List.length_replicate]
          exact Nat.lt_of_lt_of_le hi (Nat.le_trans hz (by decide))
        · rw [upd_same, List.replicate_succ', List.map_append]
          rfl
      · rintro H' ⟨sm, hDl⟩
        refine ⟨D, List.replicate xs.length true, rfl, SqL.of hDl, ?_⟩
        have e : (List.replicate xs.length true).all id = true := by
          rw [List.all_eq_true]
          intro b hb
          exact (List.mem_replicate.mp hb).2
        rw [e]
        exact q _ sm
    · rename_i p' q' xs ys
      refine ⟨_, rfl, rfl, _, rfl, ifF (decide_eq_false (by intro e; cases e)) ⟨_, rfl, rfl, _, rfl, ifF (decide_eq_false (by intro e; cases e)) ?_⟩⟩
      refine ⟨_, rfl, _, _, _, _, false, rfl, .ty "dict", .base (.tup hq), kit_ty (by decide +kernel), _, rfl, iteF ?_⟩
      refine ⟨_, rfl, (by show 2 ≤ sizeLine; decide), fun t ht => ⟨_, t, _, _, [.type "list", .type "tuple"], true, rfl, upd_same, .cons (.ty _) (.cons (.ty _) .nil), .base (.tup (same_upd ht _ _ hq)), kit_tup, _, rfl, iteT ?_⟩⟩
      have s1 : Same H (upd H t (.tup [.ty "list", .ty "tuple"])) := same_upd ht
      have hp1 := s1 _ _ hp
      have hq1 := s1 _ _ hq
      refine ⟨_, rfl, _, _, _, _, false, rfl, .ty "list", .base (.tup hp1), kit_ty (by decide +kernel), _, rfl, _, _, _, _, false, rfl, .ty "list", .base (.tup hq1), kit_ty (by decide +kernel), rfl, _, rfl, ifF (by decide) ⟨_, rfl, _, _, _, _, true, rfl, .ty "tuple", .base (.tup hp1), kit_ty (by decide +kernel), _, rfl, _, _, _, _, true, rfl, .ty "tuple", .base (.tup hq1), kit_ty (by decide +kernel), rfl, _, rfl, ifF (by decide) ?_⟩⟩
      refine ⟨_, rfl, p', xs, rfl, .inr (.inl (.inl hp1)), _, rfl, q', ys, rfl, .inr (.inl (.inl hq1)), rfl, _, rfl, ifT (decide_eq_true (by rw [hl])) ?_⟩
      refine ⟨_, rfl, _, rfl, p', q', xs, ys, rfl, .inr ⟨.inl (.inl hp1), .inl (.inl hq1), fun D hD => ?_⟩⟩
      have fD := s1.free hD
      refine lc_it (zip_tuples (K := K) (a := p') (b := q') (xs := xs) (ys := ys) hl) (fun i H' => Same H H' ∧ H' D = some (.lst ((List.replicate i true).map V.bl))) ⟨same_put s1 fD, upd_same⟩
        (fun i H' _ hv => ⟨.inl (.inl (hv.1 _ _ hp)), .inl (.inl (hv.1 _ _ hq))⟩) ?_ ?_
      · rintro i v H' H2 hi ⟨sm, hDl⟩ ⟨t2, a1, a2, rfl, ht2, rfl, e1, e2⟩
        have s2 : Same H' (upd H' t2 (.tup [a1, a2])) := same_upd ht2
        refine ⟨t2, _, rfl, .inl (.inl upd_same), rfl, a1, [a2], rfl, a2, [], rfl, rfl, rfl, ?_⟩
        refine ⟨_, rfl, _, rfl, a1, a2, rfl, (hh i a1 a2 e1 e2).same (sm.trans s2), fun H3 s3 => ?_⟩
        refine ⟨_, s3 _ _ (s2 _ _ hDl), ?_, same_put (sm.trans (s2.trans s3)) fD, ?_⟩
        · rw [List.length_map, List.length_replicate]
          exact Nat.lt_of_lt_of_le hi (Nat.le_trans hz (by decide))
        · rw [upd_same, List.replicate_succ', List.map_append]
          rfl
      · rintro H' ⟨sm, hDl⟩
        refine ⟨D, List.replicate xs.length true, rfl, SqL.of hDl, ?_⟩
        have e : (List.replicate xs.length true).all id = true := by
          rw [List.all_eq_true]
          intro b hb
          exact (List.mem_replicate.mp hb).2
        rw [e]
        exact q _ sm
theorem ok_same {f : Addr} {fd : FuncData} (F : Fun K "_law_same" "_law_same" sSame f fd) (T : SameT mg) (gS : mg "_law_same" = some (.ref f)) (bS : Binds K fd ["_law_found", "_law_due"] []) : ∀ n : Nat, FnOk P w K mg base CX0 (n + 1) f fd ["_law_found", "_law_due"] (spSame n)
  | 0 => ok_same0 F T
  | n + 1 => ok_sameS (ok_same F T gS bS n) gS bS F T
end

abbrev sLettersOf : Stmt := topS 26
abbrev sSignOf : Stmt := topS 27
abbrev sSigned : Stmt := topS 28
theorem scLettersOf : FnScope ["text"] ["text"] (defScope sLettersOf) := ⟨rfl, rfl, rfl, by decide +kernel, rfl, by decide +kernel, by decide +kernel⟩
theorem scSignOf : FnScope ["text"] ["text"] (defScope sSignOf) := ⟨rfl, rfl, rfl, by decide +kernel, rfl, by decide +kernel, by decide +kernel⟩
theorem scSigned : FnScope ["turns", "letters"] ["turns", "letters"] (defScope sSigned) := ⟨rfl, rfl, rfl, by decide +kernel, rfl, by decide +kernel, by decide +kernel⟩
section
variable {P : Program} {w : World} {K : PySem.W.Frag} {mg : Str → Option Value} {base : Heap}
theorem ok_letters {f : Addr} {fd : FuncData} (F : Fun K "letters_of" "letters_of" sLettersOf f fd) : FnOk P w K mg base CX0 1 f fd ["text"] spLetters := by
  refine F.ok scLettersOf (fun vs H Q E h => ?_) (fun cdv A outer s H vs Q E hr h => ?_)
  · obtain ⟨ts, rfl, _⟩ := h
    rfl
  · obtain ⟨ts, rfl, hz, q⟩ := h
    refine ⟨_, pss_one (ps_ret (pe_m1 PySem.F.slot_str_removeprefix PySem.F.type_str_removeprefix mt_removeprefix (pv 0) pe_str)), ?_⟩
    refine ⟨_, rfl, ⟨_, rfl⟩, txt ts, Str.ofString "-", rfl, rfl, by rw [txt_len]; exact hz, ?_⟩
    rw [remove_minus]
    exact q
theorem ok_signof {f fL : Addr} {fd fdL : FuncData} (F : Fun K "sign_of" "sign_of" sSignOf f fd) (FL : Fun K "letters_of" "letters_of" sLettersOf fL fdL) (bL : Binds K fdL ["text"] []) (gL : mg "letters_of" = some (.ref fL)) (ml : mg "len" = none) : FnOk P w K mg base CX0 2 f fd ["text"] spSignOf := by
  have GL : FnOk P w K mg base CX0 1 fL fdL ["text"] spLetters := ok_letters FL
  refine F.ok scSignOf (fun vs H Q E h => ?_) (fun cdv A outer s H vs Q E hr h => ?_)
  · obtain ⟨ts, rfl, _⟩ := h
    rfl
  · obtain ⟨ts, rfl, hz, q⟩ := h
    refine ⟨_, pss_one (ps_ret (pe_op op_sub (pe_callB call_len_str (by rfl) ml PySem.boot_len (pa_cons (pv 0) pa_nil)) (pe_callB call_len_str (by rfl) ml PySem.boot_len (pa_cons (pe_call GL hr (by rfl) gL FL.kp bL .nil pass0 (pa_cons (pv 0) pa_nil)) pa_nil)))), ?_⟩
    have e := letters_len ts
    refine ⟨_, rfl, _, rfl, by rw [txt_len]; exact hz, _, rfl, ts, rfl, hz, _, rfl, by rw [txt_len]; omega, _, _, rfl, rfl, ?_⟩
    have e2 : ((txt ts).length : Int) - ((txt (lettersL ts)).length : Int) = (signL ts : Int) := by
      rw [txt_len, txt_len]; omega
    show Q (.int (((txt ts).length : Int) - ((txt (lettersL ts)).length : Int))) H
    rw [e2]
    exact q
theorem ok_signed {f : Addr} {fd : FuncData} (F : Fun K "signed" "signed" sSigned f fd) : FnOk P w K mg base CX0 1 f fd ["turns", "letters"] spSigned := by
  refine F.ok scSigned (fun vs H Q E h => ?_) (fun cdv A outer s H vs Q E hr h => ?_)
  · obtain ⟨t, cs, rfl, _⟩ := h
    rfl
  · obtain ⟨t, cs, rfl, hz, q⟩ := h
    refine ⟨_, pss_one (ps_ret (pe_ifExp (pt_cmpR op_eq (pe_op op_mod (pv 0) pe_int) pe_int (nomark _)) (pe_op op_add_str pe_str (pv 1)) (pv 1))), ?_⟩
    refine ⟨_, rfl, _, _, rfl, rfl, (by dsimp only; decide), rfl, _, rfl, ite2 (fun h => ?_) (fun h => ?_)⟩
    · have e := V.int.inj (of_decide_eq_true h)
      refine ⟨_, rfl, _, _, rfl, rfl, by rw [txt_minus, txt_len, txt_len]; simp; omega, ?_⟩
      rw [txt_minus, txt_app]
      unfold signedL at q
      rw [if_pos e] at q
      exact q
    · have e : ¬ t % 2 = 1 := fun z => h (decide_eq_true (congrArg V.int z))
      unfold signedL at q
      rw [if_neg e] at q
      exact ⟨_, rfl, q⟩
end

abbrev sLSigned : Stmt := topS 55
theorem scLSigned : FnScope ["_law_mturned", "_law_body_here"] ["_law_mturned", "_law_body_here"] (defScope sLSigned) := ⟨rfl, rfl, rfl, by decide +kernel, rfl, by decide +kernel, by decide +kernel⟩
section
variable {P : Program} {w : World} {K : PySem.W.Frag} {mg : Str → Option Value} {base : Heap}
theorem ok_lsigned {f : Addr} {fd : FuncData} (F : Fun K "_law_signed" "_law_signed" sLSigned f fd) : FnOk P w K mg base CX0 1 f fd ["_law_mturned", "_law_body_here"] spLSigned := by
  refine F.ok scLSigned (fun vs H Q E h => ?_) (fun cdv A outer s H vs Q E hr h => ?_)
  · obtain ⟨t, cs, rfl, _⟩ := h
    rfl
  · obtain ⟨t, cs, rfl, hz, q⟩ := h
    refine ⟨_, pss_one (ps_ret (pe_op op_add_str (pe_ifExp (pt_cmpR op_eq (pe_op op_mod (pv 0) pe_int) pe_int (nomark _)) pe_str pe_str) (pv 1))), ?_⟩
    refine ⟨_, rfl, _, _, rfl, rfl, (by dsimp only; decide), rfl, _, rfl, ite2 (fun h => ?_) (fun h => ?_)⟩
    · have e := V.int.inj (of_decide_eq_true h)
      refine ⟨_, rfl, _, _, rfl, rfl, by rw [txt_minus, txt_len, txt_len]; simp; omega, ?_⟩
      rw [txt_minus, txt_app]
      unfold signedL at q
      rw [if_pos e] at q
      exact q
    · have e : ¬ t % 2 = 1 := fun z => h (decide_eq_true (congrArg V.int z))
      refine ⟨_, rfl, _, _, rfl, rfl, by rw [txt_empty, txt_len, txt_len]; simp; omega, ?_⟩
      rw [txt_empty, txt_app]
      unfold signedL at q
      rw [if_neg e] at q
      exact q
end

abbrev sLBody : Stmt := topS 54
theorem scLBody : FnScope ["_law_text_here"] ["_law_text_here"] (defScope sLBody) := ⟨rfl, rfl, rfl, by decide +kernel, rfl, by decide +kernel, by decide +kernel⟩
section
variable {P : Program} {w : World} {K : PySem.W.Frag} {mg : Str → Option Value} {base : Heap}
theorem first_is (ts : List Nat) : decide (V.str (cutS (txt ts) none (some 1)) = V.str (Str.ofString "-")) = decide (signL ts = 1) := by
  have e : cutS (txt ts) none (some ((1 : Nat) : Int)) = txt (ts.take 1) := cutS_take _ 1
  have e' : cutS (txt ts) none (some 1) = txt (ts.take 1) := e
  rw [e', txt_minus]
  cases ts with
  | nil => exact decide_eq_false (fun z => by cases txt_inj (V.str.inj z))
  | cons c r =>
    show decide (V.str (txt [c]) = V.str (txt [45])) = decide (signL (c :: r) = 1)
    by_cases h : c = 45
    · subst h
      rfl
    · have e0 : signL (c :: r) = 0 := if_neg h
      rw [decide_eq_false (fun z => h (List.head_eq_of_cons_eq (txt_inj (V.str.inj z)))), e0]
      rfl
theorem ok_lbody {f : Addr} {fd : FuncData} (F : Fun K "_law_body" "_law_body" sLBody f fd) : FnOk P w K mg base CX0 1 f fd ["_law_text_here"] spLBody := by
  refine F.ok scLBody (fun vs H Q E h => ?_) (fun cdv A outer s H vs Q E hr h => ?_)
  · obtain ⟨ts, rfl, _⟩ := h
    rfl
  · obtain ⟨ts, rfl, hz, q⟩ := h
    refine ⟨_, pss_one (ps_ret (pe_ifExp (pt_cmpR op_eq (pe_slice sl_str (pv 0) po_none (po_some pe_int)) pe_str (nomark _)) (pe_slice sl_str (pv 0) (po_some pe_int) po_none) (pv 0))), ?_⟩
    have tz : (txt ts).length ≤ sizeLine := by rw [txt_len]; exact Nat.le_of_lt (small1000 hz)
    refine ⟨_, rfl, 1, rfl, _, rfl, tz, rfl, _, rfl, ?_⟩
    rw [first_is]
    cases ts with
    | nil => exact iteF ⟨_, rfl, q⟩
    | cons c r =>
      by_cases h : c = 45
      · subst h
        have e : cutS (txt (45 :: r)) (some ((1 : Nat) : Int)) none = txt r := cutS_drop (45 :: r) 1
        have e' : cutS (txt (45 :: r)) (some 1) none = txt r := e
        refine iteT ⟨_, rfl, 1, rfl, _, rfl, tz, ?_⟩
        rw [e']
        exact q
      · have e1 : signL (c :: r) = 0 := if_neg h
        have e2 : lettersL (c :: r) = c :: r := if_neg h
        rw [e1]
        rw [e2] at q
        exact iteF ⟨_, rfl, q⟩
end

abbrev sLets : Stmt := topS 51
theorem scLets : FnScope [] [] (defScope sLets) := ⟨rfl, rfl, rfl, by decide +kernel, rfl, by decide +kernel, by decide +kernel⟩
section
variable {P : Program} {w : World} {K : PySem.W.Frag} {mg : Str → Option Value} {base : Heap}
theorem ok_lets {f : Addr} {fd : FuncData} (F : Fun K "_law_letters" "_law_letters" sLets f fd) : FnOk P w K mg base CX0 1 f fd [] spLets := by
  refine F.ok scLets (fun vs H Q E h => ?_) (fun cdv A outer s H vs Q E hr h => ?_)
  · obtain ⟨rfl, _⟩ := h
    rfl
  · obtain ⟨rfl, q⟩ := h
    exact ⟨_, pss_one (ps_ret pe_str), q⟩
end


end T78

/-! sorted(t), t a tuple of whole numbers: collect, a new list, its sort. -/
namespace Tm
open PySem PySem.Spec PySem.Calls PyProof.Rows L2
theorem call_sortedTup {X : Cx} : CallR X (.builtin "sorted") (fun given H Q => ∃ (t : Addr) (ns : List Int), given = [.ref t] ∧ SqT X.K H t (ns.map V.int) ∧ ns.length < 64 ∧
    ∀ (up : List Int) (p : Addr), up.Perm ns → up.Pairwise (· ≤ ·) → H p = none → Q (.ref p) (upd H p (.lst (up.map V.int)))) :=
  fun pins s σ H given held Q inv rel ask => by
    rcases ask with ⟨t, ns, rfl, stands, few, hand⟩
    match held, rel with
    | [_], .cons rfl .nil =>
      obtain ⟨cells, same, ⟨ob, got, isTup, ver, dat⟩, _⟩ := inv.tuple stands
      have num : cells.length = ns.length := by rw [← same.length, List.length_map]
      have room : cells.length ≤ sizeLine := by rw [num]; exact small64 few
      apply call_function_entry kind_sorted plain_sorted entry_sorted (args_sorted1 _)
      show wpAny _ _ (collect (.ref t) >>= fun vs => newList vs >>= fun l => holding [l] (call (.builtin "list.sort") [l] []) >>= fun _ => ret l) _ _ s
      apply wpAny_bind
      apply wpAny_collect_seq t (.inr rfl) got isTup dat (hsz := by rw [List.size_toArray]; exact room)
      intro heap kept
      have mid : Inv X pins σ H { s with heap := heap } := inv.kept (t' := s.toks) kept
      apply wpAny_bind
      apply wpAny_newList (hsz := by simpa using room)
      have new : (heap.push { cls := .type "list", data := .seq (cells.toArray.toList).toArray }).get? heap.objs.size = some (seqObj "list" cells.toArray 0) := Heap.get?_push_size _ rfl
      have still : ∀ b o, heap.get? b = some o → (heap.push { cls := .type "list", data := .seq (cells.toArray.toList).toArray }).get? b = some o := fun b o e => Heap.get?_push_of_some _ e
      have bigger : heap.objs.size < (heap.push { cls := .type "list", data := .seq (cells.toArray.toList).toArray }).objs.size := Heap.lt_size new
      apply wpAny_bind
      apply wpAny_holding
      refine wpAny_call_entry (T := "list") slot_list_sort ⟨_, new, rfl⟩ entry_list_sort ?_ (args_list_sort _)
      refine list_sort_tree new (Vals.ints same) (by rw [num]; exact few) fun out up whole perm rise => ?_
      refine ⟨_, rfl, wpAny_pure ⟨_, rfl, V.ref heap.objs.size, upd H heap.objs.size (.lst (up.map V.int)), ?_, rfl, hand up _ perm rise (mid.hok.fresh (Nat.le_refl _))⟩⟩
      obtain ⟨stamp, there⟩ := sortedHeap_at (out := out) new
      refine mid.laid (t' := s.toks) (fun b o e => ?_) (Nat.le_refl _) ⟨?_, out.toList, stamp, vals_of_ints whole, there⟩
      · rw [sortedHeap_old (Nat.ne_of_lt (Heap.lt_size e)) (Nat.lt_trans (Heap.lt_size e) bigger)]
        exact still b o e
      · rw [List.length_map, perm.length_eq]
        exact small64 few
end Tm

/-! Webs as they stand in memory. -/
namespace Tm
open PySem PySem.Spec PyProof.Rows L2

/-- a dict comprehension over anything that is walked: the reading of one whose walk J stands already -/
theorem dc_walk {J : It} {n : Nat} {G : Hp → Prop} {Y : Nat → Hp → V → Hp → Prop} (w : Walk J n G Y) {g : TG} {tt : TT} {tk tv : TE} {vs : List Nat} {σ : L2.St} {H1 : Hp} {Q : VK} (Pv : Addr → Nat → Hp → Prop)
    (start : ∀ D, H1 D = none → Pv D 0 (upd H1 D (.dK []))) (hG : ∀ D i H, i ≤ n → Pv D i H → G H)
    (turn : ∀ D i x H H', H1 D = none → i < n → Pv D i H → Y i H x H' → g x (wipe σ vs) H' fun σ2 H2 => wipe σ2 vs = wipe σ vs ∧ tt σ2 H2 fun b H3 => if b = true then (tk σ2 H3 fun y H4 => tv σ2 H4 fun z H5 =>
      ∃ kvs k, y = kV k ∧ H5 D = some (.dK kvs) ∧ kvs.length < sizeLine ∧ Pv D (i + 1) (upd H5 D (.dK (putK kvs k z)))) else Pv D (i + 1) H3)
    (done : ∀ D H, H1 D = none → Pv D n H → Q (.ref D) H) : tDc (fun _ H R => R J H) g tt tk tv vs σ H1 Q := by
  intro D fresh
  refine ⟨fun i m H => i + m = n ∧ Pv D i H, ⟨n, Nat.zero_add n, start D fresh⟩, ?_⟩
  intro i m H here
  cases m with
  | zero =>
    have last : i = n := here.1
    subst last
    exact .inl ⟨w.stops H (hG D i H (Nat.le_refl i) here.2), done D H fresh here.2⟩
  | succ k =>
    have lt : i < n := by have := here.1; omega
    have g0 := hG D i H (Nat.le_of_lt lt) here.2
    exact .inr ⟨w.goes i H lt g0, Pv D (i + 1), fun H' p => ⟨k, Nat.lt_succ_self k, by have := here.1; omega, p⟩, fun x H' y => turn D i x H H' fresh lt here.2 (w.yields i H x H' lt g0 y)⟩

/-! ### the fields -/
theorem ne_mp : ¬ (("marks" : Str) = "pairs") := by decide +kernel
theorem ne_ms : ¬ (("marks" : Str) = "stars") := by decide +kernel
theorem ne_ps : ¬ (("pairs" : Str) = "stars") := by decide +kernel
def webF (a1 a2 a3 : Addr) : List (Str × V) := putF "stars" (.ref a3) (putF "pairs" (.ref a2) (putF "marks" (.ref a1) []))
theorem webF_marks (a1 a2 a3 : Addr) : (webF a1 a2 a3).lookup ("marks" : Str) = some (.ref a1) := by
  unfold webF
  rw [lookup_putF, if_neg ne_ms, lookup_putF, if_neg ne_mp, lookup_putF, if_pos rfl]
theorem webF_pairs (a1 a2 a3 : Addr) : (webF a1 a2 a3).lookup ("pairs" : Str) = some (.ref a2) := by
  unfold webF
  rw [lookup_putF, if_neg ne_ps, lookup_putF, if_pos rfl]
theorem webF_stars (a1 a2 a3 : Addr) : (webF a1 a2 a3).lookup ("stars" : Str) = some (.ref a3) := by
  unfold webF
  rw [lookup_putF, if_pos rfl]
/-- the letters of the edges at a node -/
def star (es : List Edg) (n : Int) : List Nat := (es.filter fun e => decide (e.lo = n ∨ e.hi = n)).map (·.letter)
def starsK (ms : List (Int × Int)) (es : List Edg) : List (Key × V) := ms.map fun m => (Sum.inl m.1, V.str (txt (star es m.1)))
def WebAt (C : Addr) (H : Hp) (x : Addr) (ms : List (Int × Int)) (es : List Edg) : Prop :=
  ∃ dx a1 a2 a3 : Addr, H x = some (.ins C dx (webF a1 a2 a3)) ∧ H a1 = some (.dK (marksK ms)) ∧ H a2 = some (.dK (endsK es)) ∧ H a3 = some (.dK (starsK ms es)) ∧ RawOk H ms es
/-- what a web made of these dicts holds: the same nodes and marks, the same edges, each pair rising -/
def Made (ms ms' : List (Int × Int)) (es es' : List Edg) : Prop :=
  ms'.Perm ms ∧ (es'.map fun e => (e.letter, e.lo, e.hi)).Perm (es.map fun e => (e.letter, min e.lo e.hi, max e.lo e.hi))
def spWInit (C : Addr) : Sp := fun vs H Q _ => ∃ (x dx dm de : Addr) (ms : List (Int × Int)) (es : List Edg), vs = [.ref x, .ref dm, .ref de] ∧ H x = some (.ins C dx []) ∧ H dm = some (.dK (marksK ms)) ∧ H de = some (.dK (endsK es)) ∧
  MarksOk ms ∧ EdgesOk H ms es ∧ ∀ H' ms' es', Kp x H H' → WebAt C H' x ms' es' → Made ms ms' es es' → Q .non H'

/-! ### tuple(list) and sorted(tuple) of things that stand in the heap: rules that name no written part -/
theorem tupNew {X : Cx} : CallR X (.type "tuple") (fun given H Q => ∃ p ys, given = [.ref p] ∧ H p = some (.lst ys) ∧ ∀ l, H l = none → Q (.ref l) (upd H l (.tup ys))) :=
  fun pins s σ H given held Q inv rel ask => by
    obtain ⟨p, ys, e, hp, q⟩ := ask
    exact call_tuple_of pins s σ H given held Q inv rel ⟨p, ys, e, .inl ⟨SqL.of hp, q⟩⟩
theorem sortPair {X : Cx} : CallR X (.builtin "sorted") (fun given H Q => ∃ (t : Addr) (i j : Int), given = [.ref t] ∧ H t = some (.tup [.int i, .int j]) ∧ ∀ l, H l = none → Q (.ref l) (upd H l (.lst [.int (min i j), .int (max i j)]))) :=
  fun pins s σ H given held Q inv rel ask => by
    obtain ⟨t, i, j, e, ht, q⟩ := ask
    refine call_sortedTup pins s σ H given held Q inv rel ⟨t, [i, j], e, .inl (.inl ht), by show 2 < 64; decide, fun up l perm rise fresh => ?_⟩
    have two : up = [min i j, max i j] := by
      have len : up.length = 2 := perm.length_eq
      match up, len with
      | [a, b], _ =>
        have le : a ≤ b := (List.pairwise_cons.mp rise).1 b List.mem_cons_self
        have ma : a ∈ [i, j] := perm.mem_iff.mp List.mem_cons_self
        have mi : i ∈ [a, b] := perm.mem_iff.mpr List.mem_cons_self
        have mj : j ∈ [a, b] := perm.mem_iff.mpr (List.mem_cons_of_mem _ List.mem_cons_self)
        have mb : b ∈ [i, j] := perm.mem_iff.mp (List.mem_cons_of_mem _ List.mem_cons_self)
        simp only [List.mem_cons, List.not_mem_nil, or_false] at ma mi mj mb
        have e1 : a = min i j := by omega
        have e2 : b = max i j := by omega
        rw [e1, e2]
    rw [two]
    exact q l fresh

/-! ### self.f = {.. for .. in ..} -/
theorem fld_dc {K : PySem.W.Frag} {wi : TI} {g : TG} {tt : TT} {tk tv : TE} {vs : List Nat} {f : Str} {D : Ends} {σ : L2.St} {H : Hp} {ta : TE} (S : It → Hp → Prop) (walks : ∀ R : It → Hp → Prop, (∀ J H1, S J H1 → R J H1) → wi σ H R)
    (body : ∀ J H1, S J H1 → tDc (fun _ Hs R => R J Hs) g tt tk tv vs σ H1 (fun y Hy => sFld K ta (fun _ _ R => R y Hy) f D σ Hy)) : sFld K ta (tDc wi g tt tk tv vs) f D σ H := walks _ body

/-! ### arrangements -/
/-- an arrangement of the images comes of an arrangement -/
theorem perm_lift {α β : Type} (f : α → β) : ∀ (ks : List β) (l : List α), ks.Perm (l.map f) → ∃ l' : List α, l'.Perm l ∧ l'.map f = ks
  | [], l, h => by
    have e : l.map f = [] := List.perm_nil.mp h.symm
    have e2 : l = [] := List.map_eq_nil_iff.mp e
    exact ⟨[], by rw [e2], rfl⟩
  | k :: r, l, h => by
    have hk : k ∈ l.map f := h.mem_iff.mp List.mem_cons_self
    obtain ⟨a, ha, rfl⟩ := List.mem_map.mp hk
    obtain ⟨u, w, rfl⟩ := List.append_of_mem ha
    have move : (u ++ a :: w).Perm (a :: (u ++ w)) := List.perm_middle
    have rest : r.Perm ((u ++ w).map f) := by
      have h2 : (f a :: r).Perm (f a :: (u ++ w).map f) := h.trans (move.map f)
      exact (List.perm_cons (f a)).mp h2
    obtain ⟨l', p, e⟩ := perm_lift f r (u ++ w) rest
    exact ⟨a :: l', (p.cons a).trans move.symm, by rw [List.map_cons, e]⟩
theorem marksK_take {ms : List (Int × Int)} {i : Nat} (hi : i < ms.length) (nd : (ms.map (·.1)).Nodup) : putK (marksK (ms.take i)) (Sum.inl ms[i].1) (.int ms[i].2) = marksK (ms.take (i + 1)) := by
  have fresh : (Sum.inl ms[i].1 : Key) ∉ (marksK (ms.take i)).map (·.1) := fun z => by
    rw [keysM] at z
    obtain ⟨n, hn, e⟩ := List.mem_map.mp z
    have e2 : n = ms[i].1 := Sum.inl.inj e
    rw [e2, List.map_take] at hn
    obtain ⟨j, hj, ej⟩ := List.mem_iff_getElem.mp hn
    rw [List.length_take, List.length_map] at hj
    rw [List.getElem_take, List.getElem_map] at ej
    have apart := List.pairwise_iff_getElem.mp nd j i (by rw [List.length_map]; omega) (by rw [List.length_map]; exact hi) (by omega)
    rw [List.getElem_map, List.getElem_map] at apart
    exact apart ej
  rw [putK_new _ (valV_fresh fresh), List.take_succ_eq_append_getElem hi]
  unfold marksK
  rw [List.map_append]
  rfl

/-! ### behind a lock -/
theorem unlock {H H' : Hp} {a : Addr} {o : Obj} {u : HO} (here : H a = some u) (s : Same (upd H a (.frz o u)) H') : Same H (upd H' a u) := fun q w hq => by
  by_cases e : q = a
  · subst e
    rw [upd_same, ← here, hq]
  · rw [upd_ne e]
    exact s q w (by rw [upd_ne e]; exact hq)
theorem star_take {es : List Edg} {n : Int} {j : Nat} (hj : j < es.length) : star (es.take (j + 1)) n = star (es.take j) n ++ (if es[j].lo = n ∨ es[j].hi = n then [es[j].letter] else []) := by
  rw [List.take_succ_eq_append_getElem hj]
  unfold star
  rw [List.filter_append, List.map_append]
  congr 1
  by_cases c : es[j].lo = n ∨ es[j].hi = n
  · rw [if_pos c]
    simp [c]
  · rw [if_neg c]
    simp only [not_or] at c
    simp [c.1, c.2]
theorem star_len (es : List Edg) (n : Int) : (star es n).length ≤ es.length := by
  unfold star
  rw [List.length_map]
  exact List.length_filter_le _ _
theorem in_two (n a b : Int) : inV (.int n) [.int a, .int b] = decide (a = n ∨ b = n) := by
  show ((a == n) || ((b == n) || false)) = _
  by_cases c1 : a = n <;> by_cases c2 : b = n <;> simp [c1, c2]
theorem starsK_take {ms : List (Int × Int)} {es : List Edg} {i : Nat} (hi : i < ms.length) (nd : (ms.map (·.1)).Nodup) :
    putK (starsK (ms.take i) es) (Sum.inl ms[i].1) (.str (txt (star es ms[i].1))) = starsK (ms.take (i + 1)) es := by
  have keys : (starsK (ms.take i) es).map (·.1) = (marksK (ms.take i)).map (·.1) := by
    unfold starsK marksK
    rw [List.map_map, List.map_map]
    rfl
  have fresh : (Sum.inl ms[i].1 : Key) ∉ (starsK (ms.take i) es).map (·.1) := fun z => by
    rw [keys, keysM] at z
    obtain ⟨n, hn, e⟩ := List.mem_map.mp z
    have e2 : n = ms[i].1 := Sum.inl.inj e
    rw [e2, List.map_take] at hn
    obtain ⟨j, hj, ej⟩ := List.mem_iff_getElem.mp hn
    rw [List.length_take, List.length_map] at hj
    rw [List.getElem_take, List.getElem_map] at ej
    have apart := List.pairwise_iff_getElem.mp nd j i (by rw [List.length_map]; omega) (by rw [List.length_map]; exact hi) (by omega)
    rw [List.getElem_map, List.getElem_map] at apart
    exact apart ej
  rw [putK_new _ (valV_fresh fresh), List.take_succ_eq_append_getElem hi]
  unfold starsK
  rw [List.map_append]
  rfl

/-! ### what the methods promise, of a web that stands, asked for what it has -/
theorem webF_no (a1 a2 a3 : Addr) {m : Str} (h1 : ¬ m = "marks") (h2 : ¬ m = "pairs") (h3 : ¬ m = "stars") : (webF a1 a2 a3).lookup m = none := by
  unfold webF
  rw [lookup_putF, if_neg h3, lookup_putF, if_neg h2, lookup_putF, if_neg h1]
  rfl
def spChkN (C : Addr) : Sp := fun vs H Q _ => ∃ (x : Addr) (n : Int) (ms : List (Int × Int)) (es : List Edg), vs = [.ref x, .int n] ∧ WebAt C H x ms es ∧ n ∈ ms.map (·.1) ∧ Q .non H
def spChkD (C : Addr) : Sp := fun vs H Q _ => ∃ (x : Addr) (e : Edg) (ms : List (Int × Int)) (es : List Edg), vs = [.ref x, .str (txt [e.letter])] ∧ WebAt C H x ms es ∧ e ∈ es ∧ Q .non H
def spNodes (C : Addr) : Sp := fun vs H Q _ => ∃ (x : Addr) (ms : List (Int × Int)) (es : List Edg), vs = [.ref x] ∧ WebAt C H x ms es ∧ ∀ p, H p = none → Q (.ref p) (upd H p (.lst ((ms.map (·.1)).map V.int)))
def spEdges (C : Addr) : Sp := fun vs H Q _ => ∃ (x : Addr) (ms : List (Int × Int)) (es : List Edg), vs = [.ref x] ∧ WebAt C H x ms es ∧ ∀ p, H p = none → Q (.ref p) (upd H p (.lst ((es.map (·.letter)).map sig)))
def spMark (C : Addr) : Sp := fun vs H Q _ => ∃ (x : Addr) (n k : Int) (ms : List (Int × Int)) (es : List Edg), vs = [.ref x, .int n] ∧ WebAt C H x ms es ∧ (n, k) ∈ ms ∧ Q (.int k) H
def spEnds (C : Addr) : Sp := fun vs H Q _ => ∃ (x : Addr) (e : Edg) (ms : List (Int × Int)) (es : List Edg), vs = [.ref x, .str (txt [e.letter])] ∧ WebAt C H x ms es ∧ e ∈ es ∧ Q (.ref e.pair) H
def spLWeb (C : Addr) : Sp := fun vs H Q _ => ∃ (t : Addr) (ms : List (Int × Int)) (es : List Edg), vs = [.ref t] ∧ RawAt H t ms es ∧ ms.length < 64 ∧ es.length < 64 ∧
  ∀ H' x ms' es', Same H H' → WebAt C H' x ms' es' → Made ms ms' es es' → Q (.ref x) H'

/-! ### a web against drawn dicts -/
theorem one_order_int : ∀ (a b : List Int), a.Perm b → a.Pairwise (· ≤ ·) → b.Pairwise (· ≤ ·) → a = b
  | [], b, p, _, _ => (List.perm_nil.mp p.symm).symm
  | x :: r, [], p, _, _ => absurd p.length_eq (by simp)
  | x :: r, y :: t, p, ha, hb => by
    have hx : x ∈ y :: t := p.mem_iff.mp List.mem_cons_self
    have hy : y ∈ x :: r := p.mem_iff.mpr List.mem_cons_self
    have xy : x ≤ y := by
      rcases List.mem_cons.mp hy with e | e
      · omega
      · exact (List.pairwise_cons.mp ha).1 y e
    have yx : y ≤ x := by
      rcases List.mem_cons.mp hx with e | e
      · omega
      · exact (List.pairwise_cons.mp hb).1 x e
    have e : x = y := by omega
    subst e
    rw [one_order_int r t ((List.perm_cons x).mp p) (List.pairwise_cons.mp ha).2 (List.pairwise_cons.mp hb).2]
theorem one_order_nat {a b : List Nat} (p : a.Perm b) (ha : a.Pairwise (· < ·)) (hb : b.Pairwise (· < ·)) : a = b := by
  have h := one_order_int (a.map Int.ofNat) (b.map Int.ofNat) (p.map _) (List.pairwise_map.mpr (ha.imp fun h => by simp; omega)) (List.pairwise_map.mpr (hb.imp fun h => by simp; omega))
  have back := congrArg (List.map Int.toNat) h
  rw [List.map_map, List.map_map] at back
  have e : (Int.toNat ∘ Int.ofNat) = id := funext fun n => rfl
  rw [e, List.map_id, List.map_id] at back
  exact back
/-- a drawn web whose dicts stand in any order -/
def RawG (H : Hp) (t : Addr) (ms : List (Int × Int)) (es : List Edg) : Prop :=
  ∃ dm de : Addr, H t = some (.tup [.ref dm, .ref de]) ∧ H dm = some (.dK (marksK ms)) ∧ H de = some (.dK (endsK es)) ∧ MarksOk ms ∧ EdgesOk H ms es ∧ ∀ e ∈ es, e.lo < e.hi
theorem RawG.same {H H' : Hp} {t : Addr} {ms : List (Int × Int)} {es : List Edg} (r : RawG H t ms es) (s : Same H H') : RawG H' t ms es := by
  obtain ⟨dm, de, h1, h2, h3, h4, h5, h6⟩ := r
  exact ⟨dm, de, s _ _ h1, s _ _ h2, s _ _ h3, h4, h5.same s, h6⟩
theorem WebAt.same {C : Addr} {H H' : Hp} {x : Addr} {ms : List (Int × Int)} {es : List Edg} (r : WebAt C H x ms es) (s : Same H H') : WebAt C H' x ms es := by
  obtain ⟨dx, a1, a2, a3, h1, h2, h3, h4, h5⟩ := r
  exact ⟨dx, a1, a2, a3, s _ _ h1, s _ _ h2, s _ _ h3, s _ _ h4, ⟨h5.rise, h5.node, h5.mark, h5.risE, h5.name, fun e he => s _ _ (h5.pair e he), h5.less, h5.ends⟩⟩
def tri (e : Edg) : Nat × Int × Int := (e.letter, e.lo, e.hi)
def spIsWeb (C : Addr) : Sp := fun vs H Q _ => ∃ (x t : Addr) (ms ms0 : List (Int × Int)) (es es0 : List Edg), vs = [.ref x, .ref t] ∧ WebAt C H x ms es ∧ RawG H t ms0 es0 ∧ ms.Perm ms0 ∧ (es.map tri).Perm (es0.map tri) ∧ ∀ H', Same H H' → Q (.bl true) H'
theorem eqv_ints {H : Hp} {p q : Addr} {ks : List Int} {n : Nat} (hp : H p = some (.lst (ks.map V.int))) (hq : H q = some (.lst (ks.map V.int))) (few : ks.length ≤ 10000) : Eqv H (n + 1) (.ref p) (.ref q) :=
  .lst hp hq rfl (by rw [List.length_map]; exact few) fun i x y hx hy => by
    have e : x = y := Option.some.inj (hx.symm.trans hy)
    subst e
    obtain ⟨k, _, rfl⟩ := List.mem_map.mp (List.mem_of_getElem? hx)
    exact .int _ _
theorem eqv_sigs {H : Hp} {p q : Addr} {cs : List Nat} {n : Nat} (hp : H p = some (.lst (cs.map sig))) (hq : H q = some (.lst (cs.map sig))) (few : cs.length ≤ 10000) : Eqv H (n + 1) (.ref p) (.ref q) :=
  .lst hp hq rfl (by rw [List.length_map]; exact few) fun i x y hx hy => by
    have e : x = y := Option.some.inj (hx.symm.trans hy)
    subst e
    obtain ⟨k, _, rfl⟩ := List.mem_map.mp (List.mem_of_getElem? hx)
    exact .str _ _
theorem eqv_pair {H : Hp} {p q : Addr} {i j : Int} {n : Nat} (hp : H p = some (.tup [.int i, .int j])) (hq : H q = some (.tup [.int i, .int j])) : Eqv H (n + 1) (.ref p) (.ref q) :=
  .tup hp hq rfl (by show 2 ≤ 10000; decide) fun k x y hx hy => by
    have e : x = y := Option.some.inj (hx.symm.trans hy)
    subst e
    have m : x ∈ [V.int i, V.int j] := List.mem_of_getElem? hx
    rcases List.mem_cons.mp m with rfl | m
    · exact .int _ _
    · rw [List.mem_singleton.mp m]
      exact .int _ _

/-! ### lists of pairs -/
def PairsAt (H : Hp) (p : Addr) (prs : List (Int × Int)) : Prop :=
  ∃ ps : List Addr, H p = some (.lst (ps.map V.ref)) ∧ ps.length = prs.length ∧ ∀ (j : Nat) (q : Addr) (z : Int × Int), ps[j]? = some q → prs[j]? = some z → H q = some (.tup [.int z.1, .int z.2])
theorem PairsAt.same {H H' : Hp} {p : Addr} {prs : List (Int × Int)} (h : PairsAt H p prs) (s : Same H H') : PairsAt H' p prs := by
  obtain ⟨ps, h1, h2, h3⟩ := h
  exact ⟨ps, s _ _ h1, h2, fun j q z a b => s _ _ (h3 j q z a b)⟩
theorem PairsAt.keep {H H' : Hp} {b p : Addr} {prs : List (Int × Int)} (h : PairsAt H p prs) (hb : ∃ u, H b = some (.lst u)) (np : p ≠ b) (k : Kp b H H') : PairsAt H' p prs := by
  obtain ⟨ps, h1, h2, h3⟩ := h
  obtain ⟨u, hb⟩ := hb
  exact ⟨ps, k _ _ np h1, h2, fun j q z x y => k _ _ (ne_of (h3 j q z x y) hb (by intro e; cases e)) (h3 j q z x y)⟩
theorem Bag.hbl {H : Hp} {b l : Addr} (B : Bag H b l) : ∃ u, H b = some (.lst u) := by
  obtain ⟨xs, i, n, s, h, _⟩ := B
  exact ⟨_, h⟩
def GoodPairs (size : Int) (prs : List (Int × Int)) : Prop := ∀ z ∈ prs, 0 ≤ z.1 ∧ z.1 < size ∧ 0 ≤ z.2 ∧ z.2 < size ∧ z.1 ≠ z.2
def spPairs (prs : List (Int × Int)) : Sp := fun vs H Q _ => vs = [] ∧ ∀ H' p, Same H H' → H p = none → PairsAt H' p prs → Q (.ref p) H'
def fiveP : List (Int × Int) := [(0, 1), (0, 2), (0, 3), (0, 4), (1, 2), (1, 3), (1, 4), (2, 3), (2, 4), (3, 4)]
def sixP : List (Int × Int) := [(0, 3), (0, 4), (0, 5), (1, 3), (1, 4), (1, 5), (2, 3), (2, 4), (2, 5)]
/-- the pairs of a display, one tuple after another -/
inductive Laid : Hp → List (Int × Int) → List Addr → Hp → Prop
  | nil (H : Hp) : Laid H [] [] H
  | cons {H H' : Hp} {z : Int × Int} {r : List (Int × Int)} {q : Addr} {qs : List Addr} (new : H q = none) (rest : Laid (upd H q (.tup [.int z.1, .int z.2])) r qs H') : Laid H (z :: r) (q :: qs) H'
theorem Laid.same {H H' : Hp} {prs : List (Int × Int)} {qs : List Addr} (h : Laid H prs qs H') : Same H H' := by
  induction h with
  | nil H => exact Same.refl H
  | cons new _ ih => exact (same_upd new).trans ih
theorem Laid.at {H H' : Hp} {prs : List (Int × Int)} {qs : List Addr} (h : Laid H prs qs H') : qs.length = prs.length ∧ ∀ (j : Nat) (q : Addr) (z : Int × Int), qs[j]? = some q → prs[j]? = some z → H' q = some (.tup [.int z.1, .int z.2]) := by
  induction h with
  | nil H => exact ⟨rfl, fun j q z hq => by cases hq⟩
  | @cons H H' z r q qs new rest ih =>
    refine ⟨by rw [List.length_cons, List.length_cons, ih.1], fun j q' z' hq hz => ?_⟩
    cases j with
    | zero =>
      cases hq
      cases hz
      exact rest.same _ _ upd_same
    | succ j => exact ih.2 j q' z' hq hz
/-- a list of such tuples, laid last -/
theorem pairs_laid {H H' : Hp} {prs : List (Int × Int)} {qs : List Addr} {p : Addr} (h : Laid H prs qs H') (new : H' p = none) : PairsAt (upd H' p (.lst (qs.map V.ref))) p prs := by
  refine ⟨qs, upd_same, h.at.1, fun j q z hq hz => ?_⟩
  have st := h.at.2 j q z hq hz
  rw [upd_ne (ne_of_none st new)]
  exact st
def spRen : Sp := fun vs H Q _ => ∃ (b l : Addr) (size : Int) (pp : Addr) (prs : List (Int × Int)), vs = [.ref b, .int size, .ref pp] ∧ Bag H b l ∧ PairsAt H pp prs ∧ pp ≠ b ∧ 0 ≤ size ∧ size ≤ 12 ∧ GoodPairs size prs ∧ prs.length ≤ 24 ∧
  ∀ H' t ms es, Kp b H H' → Bag H' b l → RawG H' t ms es → Q (.ref t) H'

/-- the same, each pair with its address -/
def PairsZ (H : Hp) (p : Addr) (pz : List (Addr × Int × Int)) : Prop := H p = some (.lst (pz.map fun a => V.ref a.1)) ∧ ∀ a ∈ pz, H a.1 = some (.tup [.int a.2.1, .int a.2.2])
theorem PairsAt.z {H : Hp} {p : Addr} {prs : List (Int × Int)} (h : PairsAt H p prs) : ∃ pz, PairsZ H p pz ∧ pz.map (·.2) = prs := by
  obtain ⟨ps, h1, h2, h3⟩ := h
  refine ⟨ps.zip prs, ⟨?_, fun a ha => ?_⟩, List.map_snd_zip (by omega)⟩
  · have e : (ps.zip prs).map (fun a => V.ref a.1) = ((ps.zip prs).map (·.1)).map V.ref := by rw [List.map_map]; rfl
    rw [e, List.map_fst_zip (by omega)]
    exact h1
  · obtain ⟨j, hj, e⟩ := List.mem_iff_getElem.mp ha
    have g : (ps.zip prs)[j]? = some a := by rw [List.getElem?_eq_getElem hj, e]
    obtain ⟨g1, g2⟩ := List.getElem?_zip_eq_some.mp g
    exact h3 j a.1 a.2 g1 g2
theorem PairsZ.at {H : Hp} {p : Addr} {pz : List (Addr × Int × Int)} (h : PairsZ H p pz) : PairsAt H p (pz.map (·.2)) := by
  refine ⟨pz.map (·.1), by rw [h.1, List.map_map]; rfl, by rw [List.length_map, List.length_map], fun j q z hq hz => ?_⟩
  rw [List.getElem?_map] at hq hz
  cases e : pz[j]? with
  | none => rw [e] at hq; cases hq
  | some a =>
    rw [e] at hq hz
    cases hq
    cases hz
    exact h.2 a (List.mem_of_getElem? e)
theorem PairsZ.keep {H H' : Hp} {b p : Addr} {pz : List (Addr × Int × Int)} (h : PairsZ H p pz) (hb : ∃ u, H b = some (.lst u)) (np : p ≠ b) (k : Kp b H H') : PairsZ H' p pz := by
  obtain ⟨u, hb⟩ := hb
  exact ⟨k _ _ np h.1, fun a ha => k _ _ (ne_of (h.2 a ha) hb (by intro e; cases e)) (h.2 a ha)⟩
theorem PairsZ.same {H H' : Hp} {p : Addr} {pz : List (Addr × Int × Int)} (h : PairsZ H p pz) (s : Same H H') : PairsZ H' p pz := ⟨s _ _ h.1, fun a ha => s _ _ (h.2 a ha)⟩
/-- the list at p written anew with pairs that stand -/
theorem PairsZ.put {H : Hp} {p : Addr} {pz : List (Addr × Int × Int)} {u : List V} (hp : H p = some (.lst u)) (h : ∀ a ∈ pz, H a.1 = some (.tup [.int a.2.1, .int a.2.2])) : PairsZ (upd H p (.lst (pz.map fun a => V.ref a.1))) p pz :=
  ⟨upd_same, fun a ha => by rw [upd_ne (ne_of (h a ha) hp (by intro e; cases e))]; exact h a ha⟩
theorem erase_map {α β : Type} (f : α → β) : ∀ (l : List α) (k : Nat), (l.map f).eraseIdx k = (l.eraseIdx k).map f
  | [], _ => rfl
  | _ :: _, 0 => rfl
  | x :: r, k + 1 => by
    show f x :: (r.map f).eraseIdx k = f x :: (r.eraseIdx k).map f
    rw [erase_map f r k]
def spHard : Sp := fun vs H Q _ => ∃ (b l : Addr), vs = [.ref b] ∧ Bag H b l ∧ ∀ H' t ms es, Kp b H H' → Bag H' b l → RawG H' t ms es → Q (.ref t) H'
theorem RawAt.g {H : Hp} {t : Addr} {ms : List (Int × Int)} {es : List Edg} (h : RawAt H t ms es) (mf : ms.length < 64) (ef : es.length < 64) : RawG H t ms es := by
  obtain ⟨dm, de, h1, h2, h3, ok⟩ := h
  refine ⟨dm, de, h1, h2, h3, ⟨ok.rise.imp fun hab e => by rw [e] at hab; exact Int.lt_irrefl _ hab, mf, ok.node, ok.mark⟩, ⟨ok.risE.imp fun hab e => by rw [e] at hab; exact Nat.lt_irrefl _ hab, ef, ok.name, fun e he => ⟨ok.pair e he, ?_, ok.ends e he⟩⟩, ok.less⟩
  have := ok.less e he
  omega
/-- nodes from 0 to 11, rising: at most twelve -/
theorem few_nodes : ∀ (ks : List Int) (a : Int), (∀ k ∈ ks, a ≤ k ∧ k < 12) → ks.Pairwise (· < ·) → a ≤ 12 → (ks.length : Int) ≤ 12 - a
  | [], a, _, _, h => by simp; omega
  | k :: r, a, h, p, ha => by
    have hk := h k List.mem_cons_self
    have rest := few_nodes r (k + 1) (fun j hj => ⟨by have := (List.pairwise_cons.mp p).1 j hj; omega, (h j (List.mem_cons_of_mem _ hj)).2⟩) (List.pairwise_cons.mp p).2 (by omega)
    rw [List.length_cons]
    omega
theorem few_letters : ∀ (cs : List Nat) (a : Nat), (∀ c ∈ cs, a ≤ c ∧ c < 121) → cs.Pairwise (· < ·) → a ≤ 121 → cs.length + a ≤ 121
  | [], a, _, _, h => by simp; omega
  | c :: r, a, h, p, ha => by
    have hc := h c List.mem_cons_self
    have rest := few_letters r (c + 1) (fun j hj => ⟨by have := (List.pairwise_cons.mp p).1 j hj; omega, (h j (List.mem_cons_of_mem _ hj)).2⟩) (List.pairwise_cons.mp p).2 (by omega)
    rw [List.length_cons]
    omega
theorem alpha_range {c : Nat} (h : c ∈ alpha) : 97 ≤ c ∧ c < 121 := by
  simp only [alpha, List.mem_cons, List.not_mem_nil, or_false] at h
  omega
theorem RawAt.gen {H : Hp} {t : Addr} {ms : List (Int × Int)} {es : List Edg} (h : RawAt H t ms es) : RawG H t ms es := by
  obtain ⟨dm, de, h1, h2, h3, ok⟩ := id h
  have a := few_nodes (ms.map (·.1)) 0 (fun k hk => by obtain ⟨m, hm, rfl⟩ := List.mem_map.mp hk; exact ok.node m hm) ok.rise (by decide)
  have c := few_letters (es.map (·.letter)) 97 (fun k hk => by obtain ⟨e, he, rfl⟩ := List.mem_map.mp hk; exact alpha_range (ok.name e he)) ok.risE (by decide)
  rw [List.length_map] at a c
  exact h.g (by omega) (by omega)
end Tm

/-! drawn webs, and how many edges they have at most -/
namespace Tm
open PySem PySem.Spec PyProof.Rows L2
def spRawN : Sp := fun vs H Q _ => ∃ (b l : Addr) (wide many : Int), vs = [.ref b, .int wide, .int many] ∧ Bag H b l ∧ 0 ≤ wide ∧ wide ≤ 12 ∧ 0 ≤ many ∧ many ≤ 24 ∧
  ∀ H' t ms es, Kp b H H' → Bag H' b l → RawAt H' t ms es → (es.length : Int) ≤ many → Q (.ref t) H'
def spRenN : Sp := fun vs H Q _ => ∃ (b l : Addr) (size : Int) (pp : Addr) (prs : List (Int × Int)), vs = [.ref b, .int size, .ref pp] ∧ Bag H b l ∧ PairsAt H pp prs ∧ pp ≠ b ∧ 0 ≤ size ∧ size ≤ 12 ∧ GoodPairs size prs ∧ prs.length ≤ 24 ∧
  ∀ H' t ms es, Kp b H H' → Bag H' b l → RawG H' t ms es → es.length ≤ prs.length → Q (.ref t) H'
def spHardN : Sp := fun vs H Q _ => ∃ (b l : Addr), vs = [.ref b] ∧ Bag H b l ∧ ∀ H' t ms es, Kp b H H' → Bag H' b l → RawG H' t ms es → es.length ≤ 20 → Q (.ref t) H'
end Tm

namespace T78
open PySem PySem.Spec PyProof.Rows L2 Tm
abbrev sRaw : Stmt := topS 52
theorem scRaw : FnScope ["_law_bag_here", "_law_wide", "_law_many", "_law_size_here", "_law_points", "_law_marks", "_law_ends", "_law_most", "_law_letter", "_law_first", "_law_last", "_law_point"] ["_law_bag_here", "_law_wide", "_law_many"] (defScope sRaw) := ⟨rfl, rfl, rfl, by decide +kernel, rfl, by decide +kernel, by decide +kernel⟩
structure RawT (mg : Str → Option Value) : Prop where
  sorted : mg "sorted" = none
  list : mg "list" = none
  range : mg "range" = none
  dict : mg "dict" = none
  min : mg "min" = none
  max : mg "max" = none
  len : mg "len" = none
section
variable {P : Program} {w : World} {K : PySem.W.Frag} {mg : Str → Option Value} {base : Heap}
set_option maxHeartbeats 2000000 in
theorem ok_raw {f fP fM fA : Addr} {fd fdP fdM fdA : FuncData} (F : Fun K "_law_raw" "_law_raw" sRaw f fd)
    (FP : Fun K "_law_pull" "_law_pull" sPull fP fdP) (bP : Binds K fdP ["_law_bag_here", "_law_many"] []) (gP : mg "_law_pull" = some (.ref fP))
    (FM : Fun K "_law_mixed" "_law_mixed" sMixed fM fdM) (bM : Binds K fdM ["_law_bag_here", "_law_things"] []) (gM : mg "_law_mixed" = some (.ref fM))
    (FA : Fun K "_law_letters" "_law_letters" sLets fA fdA) (bA : Binds K fdA [] []) (gA : mg "_law_letters" = some (.ref fA)) (T : RawT mg) :
    FnOk P w K mg base CX0 3 f fd ["_law_bag_here", "_law_wide", "_law_many"] spRawN := by
  have GP : FnOk P w K mg base CX0 1 fP fdP ["_law_bag_here", "_law_many"] spPull := ok_pull FP T.len
  have GM : FnOk P w K mg base CX0 2 fM fdM ["_law_bag_here", "_law_things"] (spMixed K) := ok_mixed FM FP bP gP T.len T.list T.range
  have GA : FnOk P w K mg base CX0 1 fA fdA [] spLets := ok_lets FA
  refine F.ok scRaw (fun vs H Q E h => ?_) (fun cdv A outer s H vs Q E hr h => ?_)
  · obtain ⟨b, l, wide, many, rfl, _⟩ := h
    rfl
  · obtain ⟨b, l, wide, many, rfl, B, w0, w1, m0, m1, hand⟩ := h
    have hr1 : Room 1 _ := hr.mono (by decide)
    refine ⟨_, pss_cons (ps_set (i := 3) scRaw.nd rfl (.inl rfl) (pe_call GP hr1 (by rfl) gP FP.kp bP .nil pass0 (pa_cons (pv 0) (pa_cons (pe_op op_add (pv 1) pe_int) pa_nil))))
      (pss_cons (ps_set (i := 4) scRaw.nd rfl (.inl rfl) (pe_callB cr_sorted (by rfl) T.sorted (by decide +kernel) (pa_cons (pe_slice sl_list (pe_call GM hr (by rfl) gM FM.kp bM .nil pass0 (pa_cons (pv 0) (pa_cons (pe_listRg rfl (by rfl) T.list (prg_1 (by rfl) T.range pe_int)) pa_nil))) po_none (po_some (pv 3))) pa_nil)))
      (pss_cons (ps_set (i := 5) scRaw.nd rfl (.inl rfl) (pe_callTy (call_dictP rfl) (by rfl) T.dict (by decide +kernel) (pa_cons (pe_lc (own := [("_law_point", 11)]) (g := gName 11) (tt := tYes) rfl scRaw.nd (pi_list (pv 4)) (blkOk_by (own := [("_law_point", 11)]) (N := ["_law_bag_here", "_law_wide", "_law_many", "_law_size_here", "_law_points", "_law_marks", "_law_ends", "_law_most", "_law_letter", "_law_first", "_law_last", "_law_point"]) (sc := defScope sRaw) (by decide +kernel))
          (fun _ _ _ _ _ => pg_name (i := 11) scRaw.nd rfl (Or.inl rfl)) (fun _ _ _ _ _ => pts_nil) (fun _ _ _ _ _ => pe_tup (pa_cons (pv 11) (pa_cons (pe_call GP hr1 (by rfl) gP FP.kp bP .nil pass0 (pa_cons (pv 0) (pa_cons pe_int pa_nil))) pa_nil)))) pa_nil)))
      (pss_cons (ps_set (i := 6) scRaw.nd rfl (.inl rfl) pe_dnewK)
      (pss_cons (ps_set (i := 7) scRaw.nd rfl (.inl rfl) (pe_ifExp (pt_cmpR op_gt (pv 3) pe_int (nomark _)) (pe_call GP hr1 (by rfl) gP FP.kp bP .nil pass0 (pa_cons (pv 0) (pa_cons (pe_op op_add (pv 2) pe_int) pa_nil))) pe_int))
      (pss_cons (ps_for PassesOwn.never rfl (pi_list (pe_callB cr_sortedS (by rfl) T.sorted (by decide +kernel) (pa_cons (pe_slice sl_list (pe_call GM hr (by rfl) gM FM.kp bM .nil pass0 (pa_cons (pv 0) (pa_cons (pe_callTy (call_listS rfl) (by rfl) T.list boot_list (pa_cons (pe_call0 GA hr1 (by rfl) gA FA.kp bA .nil pass0) pa_nil)) pa_nil))) po_none (po_some (pv 7))) pa_nil))) (pg_name (i := 8) scRaw.nd rfl (.inl rfl))
        (pss_cons (ps_set (i := 9) scRaw.nd rfl (.inl rfl) (pe_call GP hr1 (by rfl) gP FP.kp bP .nil pass0 (pa_cons (pv 0) (pa_cons (pv 3) pa_nil))))
        (pss_cons (ps_set (i := 10) scRaw.nd rfl (.inl rfl) (pe_op op_mod (pe_op op_add (pe_op op_add (pv 9) pe_int) (pe_call GP hr1 (by rfl) gP FP.kp bP .nil pass0 (pa_cons (pv 0) (pa_cons (pe_op op_sub (pv 3) pe_int) pa_nil)))) (pv 3)))
        (pss_one (ps_dput (hu_of hr) (pv 6) (pv 8) (pe_tup (pa_cons (pe_ix ix_list (pv 4) (pe_callB (call_min2 rfl) (by rfl) T.min (by decide +kernel) (pa_cons (pv 9) (pa_cons (pv 10) pa_nil))) (fun _ _ => rfl)) (pa_cons (pe_ix ix_list (pv 4) (pe_callB (call_max2 rfl) (by rfl) T.max (by decide +kernel) (pa_cons (pv 9) (pa_cons (pv 10) pa_nil))) (fun _ _ => rfl)) pa_nil))) rfl)))))
      (pss_one (ps_ret (pe_tup (pa_cons (pv 5) (pa_cons (pv 6) pa_nil)))))))))), ?_⟩
    -- size
    refine ⟨_, rfl, _, rfl, _, _, rfl, rfl, b, l, _, rfl, B, by omega, by omega, fun H1 size k1 B1 z0 z1 => ?_⟩
    -- points
    refine ⟨_, rfl, 12, rfl, RgOk.of_le (by decide) (by decide) (by decide) (by decide), fun rg nrg => ?_⟩
    rw [rg12]
    have B2 : Bag (upd H1 rg (.lst (twelve.map V.int))) b l := B1.new nrg
    refine ⟨b, l, rg, _, rfl, B2, B1.nb nrg, SqL.of upd_same, by rw [List.length_map]; decide, fun H3 mx ys k3 B3 nmx hmx pm => ?_⟩
    obtain ⟨js, rfl, pj⟩ := perm_ints pm
    have nmxb : mx ≠ b := B2.nb nmx
    have jl : js.length = 12 := pj.length_eq
    refine ⟨_, rfl, _, rfl, mx, _, rfl, SqL.of hmx, fun sl nsl => ?_⟩
    have esz : size = ((size.toNat : Nat) : Int) := by omega
    have ecut : cutV (js.map V.int) none (some size) = (js.take size.toNat).map V.int := by
      rw [esz, cutV_take, List.map_take]
      rfl
    rw [ecut]
    refine ⟨sl, js.take size.toNat, rfl, SqL.of upd_same, by rw [List.length_take]; omega, fun ks po pk rk npo => ?_⟩
    have kl : ks.length = size.toNat := by rw [pk.length_eq, List.length_take]; omega
    have knd : ks.Nodup := pk.nodup_iff.mpr ((pj.nodup_iff.mpr twelve_nodup).sublist (List.take_sublist _ _))
    have krise : ks.Pairwise (· < ·) := rise_lt rk knd
    have kin : ∀ k ∈ ks, 0 ≤ k ∧ k < 12 := fun k hk => twelve_mem (pj.mem_iff.mp (List.mem_of_mem_take (pk.mem_iff.mp hk)))
    have K3 : Kp b H H3 := k1.trans ((Kp.new nrg).trans k3)
    have K4 : Kp b H (upd (upd H3 sl (.lst ((js.take size.toNat).map V.int))) po (.lst (ks.map V.int))) := K3.trans ((Kp.new nsl).trans (Kp.new npo))
    have B4 : Bag (upd (upd H3 sl (.lst ((js.take size.toNat).map V.int))) po (.lst (ks.map V.int))) b l := (B3.new nsl).new npo
    have hpo4 : (upd (upd H3 sl (.lst ((js.take size.toNat).map V.int))) po (.lst (ks.map V.int))) po = some (.lst (ks.map V.int)) := upd_same
    have npob : po ≠ b := (B3.new nsl).nb npo
    generalize upd (upd H3 sl (.lst ((js.take size.toNat).map V.int))) po (.lst (ks.map V.int)) = H4 at K4 B4 hpo4 ⊢
    -- marks
    refine ⟨_, rfl, po, rfl, ⟨_, SqL.of hpo4⟩, fun D nD => ?_⟩
    have nDb : D ≠ b := B4.nb nD
    refine lc_list (K := K) (a := po) (xs := ks.map V.int) (fun i H' => Kp b H4 H' ∧ Bag H' b l ∧ ∃ (ps : List Addr) (xs : List Int), H' D = some (.lst (ps.map V.ref)) ∧ ps.length = i ∧ xs.length = i ∧ (∀ x ∈ xs, x = 0 ∨ x = 1) ∧
        ∀ (j : Nat) (p : Addr) (k x : Int), ps[j]? = some p → ks[j]? = some k → xs[j]? = some x → H' p = some (.tup [.int k, .int x]))
      ⟨Kp.new nD, B4.new nD, [], [], upd_same, rfl, rfl, fun x hx => absurd hx List.not_mem_nil, fun j p k x hp => by cases hp⟩ (fun i H' _ hv => SqL.of (hv.1 _ _ npob hpo4)) ?_ ?_
    · rintro i v H' hv ⟨kp, B', ps, xs, hD, hpl, hxl, h01, hat⟩
      rw [List.getElem?_map] at hv
      cases ek : ks[i]? with
      | none => rw [ek] at hv; cases hv
      | some k =>
        rw [ek] at hv
        have ev : v = V.int k := (Option.some.inj hv).symm
        subst ev
        have hi : i < ks.length := (List.getElem?_eq_some_iff.mp ek).1
        refine ⟨rfl, ?_⟩
        refine ⟨_, rfl, _, rfl, b, l, 2, rfl, B', by decide, by decide, fun H6 x k6 B6 x0 x1 => ⟨(by show 2 ≤ sizeLine; decide), fun p np => ?_⟩⟩
        have hD6 := k6 _ _ nDb hD
        have npD : p ≠ D := (ne_of_none hD6 np).symm
        refine ⟨_, (same_upd np) _ _ hD6, by rw [List.length_map, hpl]; exact small1000 (by omega), ?_, ?_, ps ++ [p], xs ++ [x], ?_, by rw [List.length_append, hpl]; rfl, by rw [List.length_append, hxl]; rfl, ?_, ?_⟩
        · exact ((kp.trans k6).trans (Kp.new np)).put nD
        · exact (B6.new np).put nDb (B4.nl nD)
        · rw [upd_same, List.map_append]
          rfl
        · intro y hy
          rcases List.mem_append.mp hy with hy | hy
          · exact h01 y hy
          · rw [List.mem_singleton.mp hy]
            omega
        · intro j p' k' x' hp' hk' hx'
          by_cases hj : j < i
          · rw [List.getElem?_append_left (by omega)] at hp' hx'
            have old := hat j p' k' x' hp' hk' hx'
            have nb' : p' ≠ b := fun z => by
              rw [z] at old
              obtain ⟨xs0, i0, n0, s0, hb0, _⟩ := B'
              rw [hb0] at old
              cases old
            have nD' : p' ≠ D := fun z => by rw [z, hD] at old; cases old
            rw [upd_ne nD']
            exact (same_upd np) _ _ (k6 _ _ nb' old)
          · have ej : j = i := by
              have := (List.getElem?_eq_some_iff.mp hp').1
              rw [List.length_append, hpl] at this
              have e1 : [p].length = 1 := rfl
              omega
            subst ej
            rw [List.getElem?_append_right (by omega), hpl, Nat.sub_self] at hp'
            rw [List.getElem?_append_right (by omega), hxl, Nat.sub_self] at hx'
            rw [ek] at hk'
            cases hp'
            cases hx'
            cases hk'
            rw [upd_ne npD, upd_same]
    rintro H7 ⟨k7, B7, ps, xs, hD7, hpl, hxl, h01, hat⟩
    rw [List.length_map] at hpl hxl
    have zl : (ks.zip xs).length = ks.length := by rw [List.length_zip]; omega
    have zfst : (ks.zip xs).map (·.1) = ks := List.map_fst_zip (by omega)
    refine ⟨D, ps, marksK (ks.zip xs), rfl, SqL.of hD7, ?_, fun dm ndm => ?_⟩
    · refine placewise ps (marksK (ks.zip xs)) (by unfold marksK; rw [List.length_map, zl, hpl]) fun j p kv hp hkv => ?_
      unfold marksK at hkv
      rw [List.getElem?_map] at hkv
      cases ez : (ks.zip xs)[j]? with
      | none => rw [ez] at hkv; cases hkv
      | some z =>
        rw [ez] at hkv
        cases hkv
        obtain ⟨zk, zx⟩ := List.getElem?_zip_eq_some.mp ez
        exact .inl (.inl (hat j p z.1 z.2 hp zk zx))
    have ndk : ((([] : List (Key × V)) ++ marksK (ks.zip xs)).map (·.1)).Nodup := by
      have e : (marksK (ks.zip xs)).map (·.1) = ks.map Sum.inl := by
        unfold marksK
        rw [List.map_map]
        conv => rhs; rw [← zfst, List.map_map]
        rfl
      rw [List.nil_append, e]
      exact List.pairwise_map.mpr (knd.imp fun hac he => hac (Sum.inl.inj he))
    rw [merge_fresh _ _ ndk, List.nil_append]
    have hmark : ∀ m ∈ ks.zip xs, m.2 = 0 ∨ m.2 = 1 := fun m hm => h01 _ (List.of_mem_zip hm).2
    have hnode : ∀ m ∈ ks.zip xs, 0 ≤ m.1 ∧ m.1 < 12 := fun m hm => kin _ (List.of_mem_zip hm).1
    have K8 : Kp b H (upd H7 dm (.dK (marksK (ks.zip xs)))) := (K4.trans k7).trans (Kp.new ndm)
    have B8 : Bag (upd H7 dm (.dK (marksK (ks.zip xs)))) b l := B7.new ndm
    have ndmb : dm ≠ b := B7.nb ndm
    have hdm8 : (upd H7 dm (.dK (marksK (ks.zip xs)))) dm = some (.dK (marksK (ks.zip xs))) := upd_same
    have hpo8 : (upd H7 dm (.dK (marksK (ks.zip xs)))) po = some (.lst (ks.map V.int)) := (same_upd ndm) _ _ (k7 _ _ npob hpo4)
    generalize hms : ks.zip xs = ms at zfst hmark hnode K8 B8 hdm8 hpo8 ⊢
    generalize upd H7 dm (.dK (marksK ms)) = H8 at K8 B8 hdm8 hpo8 ⊢
    -- ends = {}
    intro de nde
    have K9 : Kp b H (upd H8 de (.dK [])) := K8.trans (Kp.new nde)
    have B9 : Bag (upd H8 de (.dK [])) b l := B8.new nde
    have ndeb : de ≠ b := B8.nb nde
    have hde9 : (upd H8 de (.dK [])) de = some (.dK []) := upd_same
    have hdm9 := (same_upd (o := .dK []) nde) _ _ hdm8
    have hpo9 := (same_upd (o := .dK []) nde) _ _ hpo8
    have nde0 : H de = none := K8.free B8.hb nde
    generalize upd H8 de (.dK []) = H9 at K9 B9 hde9 hdm9 hpo9 ⊢
    -- most
    refine gname ?_
    dsimp only
    refine cut (t1 := tAsg _ (gName 7)) (fun σ' H' => ∃ most : Int, σ' = [some (.ref b), some (.int wide), some (.int many), some (.int size), some (.ref po), some (.ref dm), some (.ref de), some (.int most), none, none, none, none] ∧ Bag H' b l ∧ Kp b H9 H' ∧ 0 ≤ most ∧ most ≤ 24 ∧ most ≤ many ∧ (0 < most → 1 < size)) (fun σ1 H10 hp => ?tail) (fun Nx hN => ?head)
    case head =>
      refine ⟨_, rfl, _, _, rfl, rfl, _, rfl, ite2 (fun hgt => ?_) (fun hle => ?_)⟩
      · have g := of_decide_eq_true hgt
        exact ⟨_, rfl, _, rfl, _, _, rfl, rfl, b, l, _, rfl, B9, by omega, by omega, fun H' d k' B' d0 d1 => hN _ _ ⟨d, rfl, B', k', d0, by omega, by omega, fun _ => g⟩⟩
      · exact hN _ _ ⟨0, rfl, B9, Kp.refl _ _, by decide, by decide, by omega, fun z => absurd z (by decide)⟩
    case tail =>
      obtain ⟨most, rfl, B10, k10, q0, q1, qm, hsz⟩ := hp
      refine ⟨_, rfl, rfl, _, rfl, by rw [txt_alpha, txt_len]; decide, fun ls nls => ?_⟩
      rw [txt_alpha, txt_cps]
      have B11 : Bag (upd H10 ls (.lst (alpha.map sig))) b l := B10.new nls
      refine ⟨b, l, ls, alpha.map sig, rfl, B11, B10.nb nls, SqL.of upd_same, by rw [List.length_map]; decide, fun H12 mo ys k12 B12 nmo hmo pm2 => ?_⟩
      obtain ⟨ds, rfl, pd⟩ := perm_sigs pm2
      refine ⟨_, rfl, _, rfl, mo, _, rfl, SqL.of hmo, fun s2 ns2 => ?_⟩
      have emo : most = ((most.toNat : Nat) : Int) := by omega
      have dl : ds.length = 24 := pd.length_eq
      have ecut2 : cutV (ds.map sig) none (some most) = ((ds.take most.toNat).map fun d => txt [d]).map V.str := by
        rw [emo, cutV_take, ← List.map_take, List.map_map]
        rfl
      rw [ecut2]
      refine ⟨s2, (ds.take most.toNat).map (fun d => txt [d]), rfl, SqL.of upd_same, by rw [List.length_map, List.length_take]; omega, fun zs lt pz rz nlt => ?_⟩
      obtain ⟨cs, rfl, pc⟩ := perm_letters pz
      have cnd : cs.Nodup := pc.nodup_iff.mpr ((pd.nodup_iff.mpr alpha_nodup).sublist (List.take_sublist _ _))
      have crise : cs.Pairwise (· < ·) := letters_rise rz cnd
      have cal : ∀ c ∈ cs, c ∈ alpha := fun c hc => pd.mem_iff.mp (List.mem_of_mem_take (pc.mem_iff.mp hc))
      have cl : cs.length ≤ most.toNat := by rw [pc.length_eq, List.length_take]; omega
      have k13 : Kp b H9 (upd (upd H12 s2 (.lst (((ds.take most.toNat).map fun d => txt [d]).map V.str))) lt (.lst ((cs.map fun d => txt [d]).map V.str))) := k10.trans ((Kp.new nls).trans (k12.trans ((Kp.new ns2).trans (Kp.new nlt))))
      have B13 : Bag (upd (upd H12 s2 (.lst (((ds.take most.toNat).map fun d => txt [d]).map V.str))) lt (.lst ((cs.map fun d => txt [d]).map V.str))) b l := (B12.new ns2).new nlt
      have hlt13 : (upd (upd H12 s2 (.lst (((ds.take most.toNat).map fun d => txt [d]).map V.str))) lt (.lst ((cs.map fun d => txt [d]).map V.str))) lt = some (.lst ((cs.map fun d => txt [d]).map V.str)) := upd_same
      have nltb : lt ≠ b := (B12.new ns2).nb nlt
      generalize upd (upd H12 s2 (.lst (((ds.take most.toNat).map fun d => txt [d]).map V.str))) lt (.lst ((cs.map fun d => txt [d]).map V.str)) = H13 at k13 B13 hlt13 ⊢
      have hde13 := k13 _ _ ndeb hde9
      have hdm13 := k13 _ _ ndmb hdm9
      have hpo13 := k13 _ _ npob hpo9
      have nltde : lt ≠ de := ne_of hlt13 hde13 (by intro z; cases z)
      have npode : po ≠ de := ne_of hpo13 hde13 (by intro z; cases z)
      have ndel : de ≠ l := fun z => by
        obtain ⟨xs0, i0, n0, s0, _, hl0, _⟩ := id B13
        rw [z, hl0] at hde13
        cases hde13
      have ndmde : dm ≠ de := fun z => by rw [z] at hdm8; rw [hdm8] at nde; cases nde
      refine ⟨lt, rfl, ⟨_, SqL.of hlt13⟩, for_list (K := K) (a := lt) (xs := (cs.map fun d => txt [d]).map V.str)
        (fun i σ H' => ∃ (y8 y9 y10 : Option V) (es : List Edg), σ = [some (.ref b), some (.int wide), some (.int many), some (.int size), some (.ref po), some (.ref dm), some (.ref de), some (.int most), y8, y9, y10, none]
          ∧ Kp b H H' ∧ Bag H' b l ∧ H' lt = some (.lst ((cs.map fun d => txt [d]).map V.str)) ∧ H' po = some (.lst (ks.map V.int)) ∧ H' dm = some (.dK (marksK ms)) ∧ H' de = some (.dK (endsK es)) ∧ es.map (·.letter) = cs.take i
          ∧ ∀ e ∈ es, H' e.pair = some (.tup [.int e.lo, .int e.hi]) ∧ e.lo < e.hi ∧ e.lo ∈ ks ∧ e.hi ∈ ks)
        ⟨none, none, none, [], rfl, K9.trans k13, B13, hlt13, hpo13, hdm13, hde13, rfl, fun e he => absurd he List.not_mem_nil⟩ (fun i σ H' _ ⟨_, _, _, _, _, _, _, h1, _⟩ => SqL.of h1) ?_ ?_⟩
      · rintro i v σ H14 hv ⟨y8, y9, y10, es, rfl, K14, B14, hlt14, hpo14, hdm14, hde14, hes, hall⟩
        rw [List.map_map, List.getElem?_map] at hv
        cases ec : cs[i]? with
        | none => rw [ec] at hv; cases hv
        | some c =>
          rw [ec] at hv
          have ev : v = V.str (txt [c]) := (Option.some.inj hv).symm
          subst ev
          have hi : i < cs.length := (List.getElem?_eq_some_iff.mp ec).1
          have hs1 : 1 < size := hsz (by omega)
          refine ⟨_, rfl, _, rfl, b, l, size, rfl, B14, by omega, by omega, fun H15 d k15 B15 d0 d1 => ?_⟩
          refine ⟨_, rfl, _, _, rfl, rfl, _, rfl, _, rfl, _, _, rfl, rfl, b, l, _, rfl, B15, by omega, by omega, fun H16 g k16 B16 g0 g1 => ⟨_, _, rfl, rfl, _, rfl, _, _, rfl, rfl, (by show (0 : Int) < size; omega), ?_⟩⟩
          have g2 : g < size - 1 := g1
          have hl0 : 0 ≤ (d + 1 + g) % size := Int.emod_nonneg _ (by omega)
          have hl1 : (d + 1 + g) % size < size := Int.emod_lt_of_pos _ (by omega)
          have hne : (d + 1 + g) % size ≠ d := by
            by_cases c1 : d + 1 + g < size
            · rw [Int.emod_eq_of_lt (by omega) c1]
              omega
            · have c2 : (d + 1 + g) % size = d + 1 + g - size := by
                rw [← Int.sub_emod_right, Int.emod_eq_of_lt (by omega) (by omega)]
              omega
          show _
          generalize hlast : (d + 1 + g) % size = last at hl0 hl1 hne
          have k16' : Kp b H14 H16 := k15.trans k16
          have hpo16 := k16' _ _ npob hpo14
          have hlo : ∃ (u t : Nat), u < t ∧ t < ks.length ∧ (if last < d then last else d) = (u : Int) ∧ (if last > d then last else d) = (t : Int) := by
            by_cases c1 : last < d
            · exact ⟨last.toNat, d.toNat, by omega, by omega, by rw [if_pos c1]; omega, by rw [if_neg (by omega)]; omega⟩
            · exact ⟨d.toNat, last.toNat, by omega, by omega, by rw [if_neg c1]; omega, by rw [if_pos (by omega)]; omega⟩
          obtain ⟨u, t, hut, ht, eu, et⟩ := hlo
          have hu : u < ks.length := by omega
          have gu : (ks.map V.int)[u]? = some (.int ks[u]) := by rw [List.getElem?_map, List.getElem?_eq_getElem hu]; rfl
          have gt : (ks.map V.int)[t]? = some (.int ks[t]) := by rw [List.getElem?_map, List.getElem?_eq_getElem ht]; rfl
          refine ⟨_, rfl, _, rfl, _, rfl, _, _, rfl, po, _, _, .int ks[u], rfl, rfl, SqL.of hpo16, ?_, _, rfl, _, rfl, _, rfl, _, _, rfl, po, _, _, .int ks[t], rfl, rfl, SqL.of hpo16, ?_, (by show 2 ≤ sizeLine; decide), fun pr npr => ?_⟩
          · show atI (ks.map V.int) (if (d + 1 + g) % size < d then (d + 1 + g) % size else d) = _
            rw [hlast, eu]
            exact atI_nat gu
          · show atI (ks.map V.int) (if (d + 1 + g) % size > d then (d + 1 + g) % size else d) = _
            rw [hlast, et]
            exact atI_nat gt
          have hde16 := (same_upd (o := .tup [.int ks[u], .int ks[t]]) npr) _ _ (k16' _ _ ndeb hde14)
          have fresh : (Sum.inr (txt [c]) : Key) ∉ (endsK es).map (·.1) := fun z => by
            unfold endsK at z
            rw [List.map_map] at z
            obtain ⟨e, he, ez⟩ := List.mem_map.mp z
            have ez2 : e.letter = c := List.head_eq_of_cons_eq (txt_inj (Sum.inr.inj ez))
            have hm : c ∈ cs.take i := by
              rw [← hes, ← ez2]
              exact List.mem_map.mpr ⟨e, he, rfl⟩
            obtain ⟨j, hj, ej⟩ := List.mem_iff_getElem.mp hm
            rw [List.length_take] at hj
            rw [List.getElem_take] at ej
            have gi : cs[i] = c := Option.some.inj ((List.getElem?_eq_getElem hi).symm.trans ec)
            have up := List.pairwise_iff_getElem.mp crise j i (by omega) hi (by omega)
            rw [ej, gi] at up
            exact Nat.lt_irrefl _ up
          have eel : es.length = i := by
            have e := congrArg List.length hes
            rw [List.length_map, List.length_take] at e
            omega
          refine ⟨_, rfl, _, rfl, de, _, rfl, DPut.k (k := Sum.inr (txt [c])) hde16 (by unfold endsK; rw [List.length_map, eel]; exact small1000 (by omega)), ?_⟩
          rw [putK_new _ (valV_fresh fresh)]
          refine ⟨_, _, _, es ++ [⟨c, pr, ks[u], ks[t]⟩], rfl, ?_, ?_, ?_, ?_, ?_, ?_, ?_, ?_⟩
          · exact ((K14.trans k16').trans (Kp.new npr)).put nde0
          · exact (B16.new npr).put ndeb ndel
          · rw [upd_ne nltde]
            exact (same_upd npr) _ _ (k16' _ _ nltb hlt14)
          · rw [upd_ne npode]
            exact (same_upd npr) _ _ hpo16
          · rw [upd_ne ndmde]
            exact (same_upd npr) _ _ (k16' _ _ ndmb hdm14)
          · rw [upd_same]
            unfold endsK
            rw [List.map_append]
            rfl
          · rw [List.map_append, hes, List.take_succ_eq_append_getElem hi]
            have gi : cs[i] = c := Option.some.inj ((List.getElem?_eq_getElem hi).symm.trans ec)
            rw [gi]
            rfl
          · intro e he
            rcases List.mem_append.mp he with he | he
            · obtain ⟨a1, a2, a3, a4⟩ := hall e he
              have nb' : e.pair ≠ b := fun z => by
                rw [z] at a1
                obtain ⟨xs0, i0, n0, s0, hb0, _⟩ := id B14
                rw [hb0] at a1
                cases a1
              have nd' : e.pair ≠ de := fun z => by rw [z, hde14] at a1; cases a1
              refine ⟨?_, a2, a3, a4⟩
              rw [upd_ne nd']
              exact (same_upd npr) _ _ (k16' _ _ nb' a1)
            · rw [List.mem_singleton.mp he]
              have npd : pr ≠ de := fun z => by rw [z, k16' _ _ ndeb hde14] at npr; cases npr
              refine ⟨?_, rise_get krise hu ht hut, List.getElem_mem hu, List.getElem_mem ht⟩
              show (upd (upd H16 pr (.tup [.int ks[u], .int ks[t]])) de _) pr = _
              rw [upd_ne npd, upd_same]
      · rintro σ H14 ⟨y8, y9, y10, es, rfl, K14, B14, hlt14, hpo14, hdm14, hde14, hes, hall⟩
        rw [List.length_map, List.length_map, List.take_length] at hes
        refine ⟨_, rfl, _, rfl, (by show 2 ≤ sizeLine; decide), fun tt ntt => ?_⟩
        have st := same_upd (o := .tup [.ref dm, .ref de]) ntt
        have esl : es.length ≤ most.toNat := by
          have e := congrArg List.length hes
          rw [List.length_map] at e
          omega
        refine hand _ tt ms es (K14.trans (Kp.new ntt)) (B14.new ntt) ⟨dm, de, upd_same, st _ _ hdm14, st _ _ hde14, ?_⟩ (by omega)
        refine ⟨by rw [zfst]; exact krise, hnode, hmark, by rw [hes]; exact crise, ?_, fun e he => st _ _ (hall e he).1, fun e he => (hall e he).2.1, fun e he => by rw [zfst]; exact (hall e he).2.2⟩
        intro e he
        refine cal _ ?_
        rw [← hes]
        exact List.mem_map.mpr ⟨e, he, rfl⟩
end


end T78

namespace T78
open PySem PySem.Spec PyProof.Rows L2 Tm
open ClX
abbrev sIsNode : Stmt := topS 16
abbrev sIsMark : Stmt := topS 17
abbrev sIsName : Stmt := topS 18
abbrev sJoins : Stmt := topS 19
abbrev sChkM : Stmt := topS 20
abbrev sChkE : Stmt := topS 21
theorem scIsNode : FnScope ["number"] ["number"] (defScope sIsNode) := ⟨rfl, rfl, rfl, by decide +kernel, rfl, by decide +kernel, by decide +kernel⟩
theorem scIsMark : FnScope ["number"] ["number"] (defScope sIsMark) := ⟨rfl, rfl, rfl, by decide +kernel, rfl, by decide +kernel, by decide +kernel⟩
theorem scIsName : FnScope ["text"] ["text"] (defScope sIsName) := ⟨rfl, rfl, rfl, by decide +kernel, rfl, by decide +kernel, by decide +kernel⟩
theorem scJoins : FnScope ["marks", "pair"] ["marks", "pair"] (defScope sJoins) := ⟨rfl, rfl, rfl, by decide +kernel, rfl, by decide +kernel, by decide +kernel⟩
theorem scChkM : FnScope ["marks", "node"] ["marks"] (defScope sChkM) := ⟨rfl, rfl, rfl, by decide +kernel, rfl, by decide +kernel, by decide +kernel⟩
theorem scChkE : FnScope ["marks", "edges", "name"] ["marks", "edges"] (defScope sChkE) := ⟨rfl, rfl, rfl, by decide +kernel, rfl, by decide +kernel, by decide +kernel⟩
/-- what the module's names hold, as far as the checks ask -/
structure ChkT (K : PySem.W.Frag) (mg : Str → Option Value) (C : Addr) (mc : Value) : Prop where
  web : mg "Web" = some (.ref C)
  read : CRead K C mc
  nodes : ∃ u, CVal K C mc "MAX_NODES" (.int 12) u
  names : ∃ t, mg "EDGE_NAMES" = some (.str (Str.ofString "abcdefghijklmnopqrstuvwx") t)
  sorted : mg "sorted" = none
  len : mg "len" = none
section
variable {P : Program} {w : World} {K : PySem.W.Frag} {mg : Str → Option Value} {base : Heap}
theorem ok_isnode {f C : Addr} {mc : Value} {fd : FuncData} (F : Fun K "is_node" "is_node" sIsNode f fd) (T : ChkT K mg C mc) : FnOk P w K mg base CX0 1 f fd ["number"] spIsNode := by
  refine F.ok scIsNode (fun vs H Q E h => ?_) (fun cdv A outer s H vs Q E hr h => ?_)
  · obtain ⟨n, rfl, _⟩ := h
    rfl
  · obtain ⟨n, rfl, n0, n1, q⟩ := h
    obtain ⟨u, cv⟩ := T.nodes
    refine ⟨_, pss_one (ps_ret (pe_chain op_le op_lt pe_int (pv 0) (pe_cval (pe_glob (v := .ref C) (by rfl) T.web rfl)))), ?_⟩
    refine ⟨_, rfl, 0, n, rfl, rfl, true, ?_, ?_⟩
    · exact congrArg V.bl (decide_eq_true n0)
    · refine iteT ⟨C, mc, _, u, rfl, T.read, cv, n, 12, rfl, rfl, ?_⟩
      show Q (.bl (decide (n < 12))) H
      rw [decide_eq_true n1]
      exact q
theorem ok_ismark {f : Addr} {fd : FuncData} (F : Fun K "is_mark" "is_mark" sIsMark f fd) : FnOk P w K mg base CX0 1 f fd ["number"] spIsMark := by
  refine F.ok scIsMark (fun vs H Q E h => ?_) (fun cdv A outer s H vs Q E hr h => ?_)
  · obtain ⟨n, rfl, _⟩ := h
    rfl
  · obtain ⟨n, rfl, n01, q⟩ := h
    refine ⟨_, pss_one (ps_ret (pe_cmpR op_in_seq (pv 0) (pe_tup (pa_cons pe_int (pa_cons pe_int pa_nil))) (by rfl))), ?_⟩
    refine ⟨_, rfl, (by show 2 ≤ sizeLine; decide), fun t nt => ⟨t, _, rfl, .inr (.inl (.inl upd_same)), rfl, rfl, ?_⟩⟩
    have e : inV (.int n) [.int 0, .int 1] = true := by
      rcases n01 with rfl | rfl <;> rfl
    show Q (.bl (inV (.int n) [.int 0, .int 1])) _
    rw [e]
    exact q _ (same_upd nt)
theorem ok_isname {f C : Addr} {mc : Value} {fd : FuncData} (F : Fun K "is_name" "is_name" sIsName f fd) (T : ChkT K mg C mc) : FnOk P w K mg base CX0 1 f fd ["text"] spIsName := by
  refine F.ok scIsName (fun vs H Q E h => ?_) (fun cdv A outer s H vs Q E hr h => ?_)
  · obtain ⟨c, rfl, _⟩ := h
    rfl
  · obtain ⟨c, rfl, hc, q⟩ := h
    obtain ⟨tk, mn⟩ := T.names
    refine ⟨_, pss_one (ps_ret (pe_and (pe_cmpR op_eq (pe_callB call_len_str (by rfl) T.len PySem.boot_len (pa_cons (pv 0) pa_nil)) pe_int (nomark _)) (pe_one (pe_cmpR op_in_sign (pv 0) (pe_glob (v := .str (Str.ofString "abcdefghijklmnopqrstuvwx")) (by rfl) mn ⟨tk, rfl⟩) (by rfl))))), ?_⟩
    refine ⟨_, rfl, _, rfl, by rw [txt_len]; exact (by decide : 1 ≤ sizeLine), rfl, true, ?_, ?_⟩
    · rw [txt_len]
      rfl
    · refine iteT ⟨_, rfl, c, _, rfl, rfl, ?_⟩
      rw [txt_alpha, txt_cps, decide_eq_true hc]
      exact q
theorem ok_joins {f C : Addr} {mc : Value} {fd : FuncData} (F : Fun K "joins_two" "joins_two" sJoins f fd) (T : ChkT K mg C mc) : FnOk P w K mg base CX0 1 f fd ["marks", "pair"] spJoins := by
  refine F.ok scJoins (fun vs H Q E h => ?_) (fun cdv A outer s H vs Q E hr h => ?_)
  · obtain ⟨dm, p, ms, x, y, rfl, _⟩ := h
    rfl
  · obtain ⟨dm, p, ms, x, y, rfl, hm, hp, ne, hx, hy, q⟩ := h
    obtain ⟨vx, ex⟩ := mark_some hx
    obtain ⟨vy, ey⟩ := mark_some hy
    have sp : SqT K H p [.int x, .int y] := .inl (.inl hp)
    refine ⟨_, pss_one (ps_ret (pe_and (pe_cmpR op_eq (pe_callB call_len_seq (by rfl) T.len PySem.boot_len (pa_cons (pv 1) pa_nil)) pe_int (nomark _))
      (pe_and (pe_cmpR op_ne (pe_ix ix_tup (pv 1) pe_int (fun _ _ => rfl)) (pe_ix ix_tup (pv 1) pe_int (fun _ _ => rfl)) (nomark _))
      (pe_and (pe_cmp (pc_din (hu_of hr) (pe_ix ix_tup (pv 1) pe_int (fun _ _ => rfl)) (pv 0)) rfl)
      (pe_one (pe_cmp (pc_din (hu_of hr) (pe_ix ix_tup (pv 1) pe_int (fun _ _ => rfl)) (pv 0)) rfl)))))), ?_⟩
    refine ⟨_, rfl, p, _, rfl, .inr sp, rfl, true, rfl, iteT ?_⟩
    refine ⟨_, rfl, p, _, 0, .int x, rfl, rfl, sp, rfl, _, rfl, p, _, 1, .int y, rfl, rfl, sp, rfl, rfl, true, ?_, iteT ?_⟩
    · rw [decide_eq_false (fun z => ne (V.int.inj z))]
      rfl
    refine ⟨_, rfl, p, _, 0, .int x, rfl, rfl, sp, rfl, _, rfl, dm, _, rfl, DGet.k (k := Sum.inl x) hm, true, ?_, iteT ?_⟩
    · rw [ex]
      rfl
    refine ⟨_, rfl, p, _, 1, .int y, rfl, rfl, sp, rfl, _, rfl, dm, _, rfl, DGet.k (k := Sum.inl y) hm, ?_⟩
    rw [ey]
    exact q
theorem ok_chkm {f fN fK C : Addr} {mc : Value} {fd fdN fdK : FuncData} (F : Fun K "check_marks" "check_marks" sChkM f fd) (FN : Fun K "is_node" "is_node" sIsNode fN fdN) (bN : Binds K fdN ["number"] []) (gN : mg "is_node" = some (.ref fN))
    (FK : Fun K "is_mark" "is_mark" sIsMark fK fdK) (bK : Binds K fdK ["number"] []) (gK : mg "is_mark" = some (.ref fK)) (T : ChkT K mg C mc) : FnOk P w K mg base CX0 2 f fd ["marks"] spChkM := by
  have GN : FnOk P w K mg base CX0 1 fN fdN ["number"] spIsNode := ok_isnode FN T
  have GK : FnOk P w K mg base CX0 1 fK fdK ["number"] spIsMark := ok_ismark FK
  refine F.ok scChkM (fun vs H Q E h => ?_) (fun cdv A outer s H vs Q E hr h => ?_)
  · obtain ⟨dm, ms, rfl, _⟩ := h
    rfl
  · obtain ⟨dm, ms, rfl, hm, ⟨nd, small, node, mark⟩, q⟩ := h
    have hn : (ms.map (·.1)).length < 64 := by rw [List.length_map]; exact small
    refine ⟨_, pss_cons (ps_for PassesOwn.never rfl (pi_list (pe_callB (call_sortedDI rfl) (by rfl) T.sorted (by decide +kernel) (pa_cons (pv 0) pa_nil))) (pg_name (i := 1) scChkM.nd rfl (.inl rfl))
        (pss_one (ps_if (pt_not (pt_val (pe_call GN hr (by rfl) gN FN.kp bN .nil pass0 (pa_cons (pv 1) pa_nil)))) pss_never pss_nil)))
      (pss_one (ps_for PassesOwn.never rfl (pi_list (pe_callB (call_sortedDI rfl) (by rfl) T.sorted (by decide +kernel) (pa_cons (pv 0) pa_nil))) (pg_name (i := 1) scChkM.nd rfl (.inl rfl))
        (pss_one (ps_if (pt_not (pt_val (pe_call GK hr (by rfl) gK FK.kp bK .nil pass0 (pa_cons (pe_dget (hu_of hr) (pv 0) (pv 1) (fun _ _ => rfl)) pa_nil)))) pss_never pss_nil)))), ?_⟩
    refine ⟨_, rfl, dm, _, _, rfl, .inl hm, keysM ms, hn, fun ys p py _ np => ?_⟩
    refine ⟨p, rfl, ⟨_, SqL.of upd_same⟩, for_list (K := K) (a := p) (xs := ys.map V.int) (fun i σ H' => ∃ y, σ = [some (.ref dm), y] ∧ H' = upd H p (.lst (ys.map V.int))) ⟨none, rfl, rfl⟩
      (fun i σ H' _ ⟨_, _, e⟩ => by rw [e]; exact SqL.of upd_same) ?_ ?_⟩
    · rintro i v σ H' hv ⟨y, rfl, rfl⟩
      obtain ⟨n, hn1, rfl⟩ := List.mem_map.mp (List.mem_of_getElem? hv)
      obtain ⟨m, hm1, rfl⟩ := List.mem_map.mp (py.mem_iff.mp hn1)
      exact ⟨_, rfl, m.1, rfl, (node m hm1).1, (node m hm1).2, true, rfl, iteF ⟨_, rfl, rfl⟩⟩
    · rintro σ H' ⟨y, rfl, rfl⟩
      have s1 : Same H (upd H p (.lst (ys.map V.int))) := same_upd np
      refine ⟨_, rfl, dm, _, _, rfl, .inl (s1 _ _ hm), keysM ms, hn, fun zs p2 pz _ np2 => ?_⟩
      have s2 := s1.trans (same_upd (o := .lst (zs.map V.int)) np2)
      have hz2 : (upd (upd H p (.lst (ys.map V.int))) p2 (.lst (zs.map V.int))) p2 = some (.lst (zs.map V.int)) := upd_same
      generalize upd (upd H p (.lst (ys.map V.int))) p2 (.lst (zs.map V.int)) = H2 at s2 hz2 ⊢
      refine ⟨p2, rfl, ⟨_, SqL.of hz2⟩, for_list (K := K) (a := p2) (xs := zs.map V.int) (fun i σ H' => ∃ y, σ = [some (.ref dm), y] ∧ Same H2 H') ⟨y, rfl, Same.refl _⟩ (fun i σ H' _ ⟨_, _, e⟩ => SqL.of (e _ _ hz2)) ?_ ?_⟩
      · rintro i v σ H' hv ⟨y', rfl, s3⟩
        obtain ⟨n, hn1, rfl⟩ := List.mem_map.mp (List.mem_of_getElem? hv)
        obtain ⟨m, hm1, rfl⟩ := List.mem_map.mp (pz.mem_iff.mp hn1)
        have look : valV (marksK ms) (Sum.inl m.1) = some (.int m.2) := mark_at nd hm1
        have got : DGet H' dm (.int m.1) (some (.int m.2)) := look ▸ DGet.k (k := Sum.inl m.1) (s3 _ _ (s2 _ _ hm))
        exact ⟨_, rfl, _, rfl, dm, _, rfl, got, m.2, rfl, mark m hm1, fun H4 s4 => ⟨true, rfl, iteF ⟨_, rfl, s3.trans s4⟩⟩⟩
      · rintro σ H' ⟨y', rfl, s3⟩
        exact q _ (s2.trans s3)
theorem ok_chke {f fN fJ C : Addr} {mc : Value} {fd fdN fdJ : FuncData} (F : Fun K "check_edges" "check_edges" sChkE f fd) (FN : Fun K "is_name" "is_name" sIsName fN fdN) (bN : Binds K fdN ["text"] []) (gN : mg "is_name" = some (.ref fN))
    (FJ : Fun K "joins_two" "joins_two" sJoins fJ fdJ) (bJ : Binds K fdJ ["marks", "pair"] []) (gJ : mg "joins_two" = some (.ref fJ)) (T : ChkT K mg C mc) : FnOk P w K mg base CX0 2 f fd ["marks", "edges"] spChkE := by
  have GN : FnOk P w K mg base CX0 1 fN fdN ["text"] spIsName := ok_isname FN T
  have GJ : FnOk P w K mg base CX0 1 fJ fdJ ["marks", "pair"] spJoins := ok_joins FJ T
  refine F.ok scChkE (fun vs H Q E h => ?_) (fun cdv A outer s H vs Q E hr h => ?_)
  · obtain ⟨dm, de, ms, es, rfl, _⟩ := h
    rfl
  · obtain ⟨dm, de, ms, es, rfl, hm, he, ⟨nd, small, name, pair⟩, q⟩ := h
    have hn : (es.map fun e => txt [e.letter]).length < 64 := by rw [List.length_map]; exact small
    refine ⟨_, pss_cons (ps_for PassesOwn.never rfl (pi_list (pe_callB (call_sortedD rfl) (by rfl) T.sorted (by decide +kernel) (pa_cons (pv 1) pa_nil))) (pg_name (i := 2) scChkE.nd rfl (.inl rfl))
        (pss_one (ps_if (pt_not (pt_val (pe_call GN hr (by rfl) gN FN.kp bN .nil pass0 (pa_cons (pv 2) pa_nil)))) pss_never pss_nil)))
      (pss_one (ps_for PassesOwn.never rfl (pi_list (pe_callB (call_sortedD rfl) (by rfl) T.sorted (by decide +kernel) (pa_cons (pv 1) pa_nil))) (pg_name (i := 2) scChkE.nd rfl (.inl rfl))
        (pss_one (ps_if (pt_not (pt_val (pe_call GJ hr (by rfl) gJ FJ.kp bJ .nil pass0 (pa_cons (pv 0) (pa_cons (pe_dget (hu_of hr) (pv 1) (pv 2) (fun _ _ => rfl)) pa_nil))))) pss_never pss_nil)))), ?_⟩
    refine ⟨_, rfl, de, _, _, rfl, .inl he, keysE es, hn, fun ys p py _ np => ?_⟩
    refine ⟨p, rfl, ⟨_, SqL.of upd_same⟩, for_list (K := K) (a := p) (xs := ys.map V.str) (fun i σ H' => ∃ y, σ = [some (.ref dm), some (.ref de), y] ∧ H' = upd H p (.lst (ys.map V.str))) ⟨none, rfl, rfl⟩
      (fun i σ H' _ ⟨_, _, e⟩ => by rw [e]; exact SqL.of upd_same) ?_ ?_⟩
    · rintro i v σ H' hv ⟨y, rfl, rfl⟩
      obtain ⟨z, hz, rfl⟩ := List.mem_map.mp (List.mem_of_getElem? hv)
      obtain ⟨e, he1, rfl⟩ := List.mem_map.mp (py.mem_iff.mp hz)
      exact ⟨_, rfl, e.letter, rfl, name e he1, true, rfl, iteF ⟨_, rfl, rfl⟩⟩
    · rintro σ H' ⟨y, rfl, rfl⟩
      have s1 : Same H (upd H p (.lst (ys.map V.str))) := same_upd np
      refine ⟨_, rfl, de, _, _, rfl, .inl (s1 _ _ he), keysE es, hn, fun zs p2 pz _ np2 => ?_⟩
      have s2 := s1.trans (same_upd (o := .lst (zs.map V.str)) np2)
      have hz2 : (upd (upd H p (.lst (ys.map V.str))) p2 (.lst (zs.map V.str))) p2 = some (.lst (zs.map V.str)) := upd_same
      generalize upd (upd H p (.lst (ys.map V.str))) p2 (.lst (zs.map V.str)) = H2 at s2 hz2 ⊢
      refine ⟨p2, rfl, ⟨_, SqL.of hz2⟩, for_list (K := K) (a := p2) (xs := zs.map V.str) (fun i σ H' => ∃ y, σ = [some (.ref dm), some (.ref de), y] ∧ H' = H2) ⟨y, rfl, rfl⟩ (fun i σ H' _ ⟨_, _, e⟩ => by rw [e]; exact SqL.of hz2) ?_ ?_⟩
      · rintro i v σ H' hv ⟨y', rfl, rfl⟩
        obtain ⟨z, hz, rfl⟩ := List.mem_map.mp (List.mem_of_getElem? hv)
        obtain ⟨e, he1, rfl⟩ := List.mem_map.mp (pz.mem_iff.mp hz)
        have look : valV (endsK es) (Sum.inr (txt [e.letter])) = some (.ref e.pair) := end_at nd he1
        have got : DGet H' de (.str (txt [e.letter])) (some (.ref e.pair)) := look ▸ DGet.k (k := Sum.inr (txt [e.letter])) (s2 _ _ he)
        obtain ⟨a1, a2, a3, a4⟩ := pair e he1
        exact ⟨_, rfl, _, rfl, _, rfl, de, _, rfl, got, dm, e.pair, ms, e.lo, e.hi, rfl, s2 _ _ hm, s2 _ _ a1, a2, a3, a4, true, rfl, iteF ⟨_, rfl, rfl⟩⟩
      · rintro σ H' ⟨y', rfl, rfl⟩
        exact q _ s2
end


end T78

namespace T78
open PySem PySem.Spec PyProof.Rows L2 Tm ClX
abbrev sWInit : Stmt := inClass (topS 24) 2
theorem scWInit : FnScope ["self", "marks", "edges", "node", "name"] ["self", "marks", "edges"] (defScope sWInit) := ⟨rfl, rfl, rfl, by decide +kernel, rfl, by decide +kernel, by decide +kernel⟩
structure WebT (K : PySem.W.Frag) (mg : Str → Option Value) (C : Addr) : Prop where
  cl : Cls K C
  nM : NoAttr K C "marks"
  nP : NoAttr K C "pairs"
  nS : NoAttr K C "stars"
  tuple : mg "tuple" = none
section
variable {P : Program} {w : World} {K : PySem.W.Frag} {mg : Str → Option Value} {base : Heap}
set_option maxHeartbeats 2000000 in
theorem ok_winit {f fM fD C : Addr} {mc : Value} {fd fdM fdD : FuncData} (F : Fun K "__init__" "Web.__init__" sWInit f fd)
    (GM : FnOk P w K mg base CX0 2 fM fdM ["marks"] spChkM) (FM : Fun K "check_marks" "check_marks" sChkM fM fdM) (bM : Binds K fdM ["marks"] []) (gM : mg "check_marks" = some (.ref fM))
    (GD : FnOk P w K mg base CX0 2 fD fdD ["marks", "edges"] spChkE) (FD : Fun K "check_edges" "check_edges" sChkE fD fdD) (bD : Binds K fdD ["marks", "edges"] []) (gD : mg "check_edges" = some (.ref fD))
    (T : ChkT K mg C mc) (U : WebT K mg C) : FnOk P w K mg base CX0 3 f fd ["self", "marks", "edges"] (spWInit C) := by
  refine F.ok scWInit (fun vs H Q E h => ?_) (fun cdv A outer s H vs Q E hr h => ?_)
  · obtain ⟨x, dx, dm, de, ms, es, rfl, _⟩ := h
    rfl
  · obtain ⟨x, dx, dm, de, ms, es, rfl, hx, hm, he, mok, eok, hand⟩ := h
    refine ⟨_, pss_cons (ps_expr (pe_call GM hr (by rfl) gM FM.kp bM .nil pass0 (pa_cons (pv 1) pa_nil)))
      (pss_cons (ps_expr (pe_call GD hr (by rfl) gD FD.kp bD .nil pass0 (pa_cons (pv 1) (pa_cons (pv 2) pa_nil))))
      (pss_cons (ps_fld (pv 0) (pe_dc (own := [("node", 3)]) (g := gName 3) (tt := tYes) rfl scWInit.nd (pi_list (pe_callB (call_sortedDI rfl) (by rfl) T.sorted (by decide +kernel) (pa_cons (pv 1) pa_nil))) (blkOk_by (own := [("node", 3)]) (N := ["self", "marks", "edges", "node", "name"]) (sc := defScope sWInit) (by decide +kernel)) (fun _ _ _ _ _ => pg_name (i := 3) scWInit.nd rfl (Or.inl rfl)) (fun _ _ _ _ _ => pts_nil)
        (fun _ _ _ _ _ => pv 3) (fun _ _ _ _ _ => pe_dget (hu_of hr) (pv 1) (pv 3) (fun _ _ => rfl))) rfl)
      (pss_cons (ps_fld (pv 0) (pe_dc (own := [("name", 4)]) (g := gName 4) (tt := tYes) rfl scWInit.nd (pi_list (pe_callB (call_sortedD rfl) (by rfl) T.sorted (by decide +kernel) (pa_cons (pv 2) pa_nil))) (blkOk_by (own := [("name", 4)]) (N := ["self", "marks", "edges", "node", "name"]) (sc := defScope sWInit) (by decide +kernel)) (fun _ _ _ _ _ => pg_name (i := 4) scWInit.nd rfl (Or.inl rfl)) (fun _ _ _ _ _ => pts_nil)
        (fun _ _ _ _ _ => pv 4) (fun _ _ _ _ _ => pe_callTy tupNew (by rfl) U.tuple boot_tuple (pa_cons (pe_callB sortPair (by rfl) T.sorted (by decide +kernel) (pa_cons (pe_dget (hu_of hr) (pv 2) (pv 4) (fun _ _ => rfl)) pa_nil)) pa_nil))) rfl)
      (pss_cons (ps_fld (pv 0) pe_dnewK rfl)
      (pss_one (ps_lock (ps_for PassesOwn.never rfl (pi_keys (pe_fld (pv 0) rfl)) (pg_name (i := 3) scWInit.nd rfl (.inr rfl))
        (pss_one (ps_dput (hu_of hr) (pe_fld (pv 0) rfl) (pv 3) (pe_join pe_str (pe_lock (pe_lc (own := [("name", 4)]) (g := gName 4) rfl scWInit.nd (pi_keys (pe_fld (pv 0) rfl)) (blkOk_by (own := [("name", 4)]) (N := ["self", "marks", "edges", "node", "name"]) (sc := defScope sWInit) (by decide +kernel)) (fun _ _ _ _ _ => pg_name (i := 4) scWInit.nd rfl (Or.inl rfl))
          (fun _ _ _ _ _ => pts_one (pt_cmpR (show OpR _ _ (rIn K false) from op_in_seq) (pv 3) (pe_dget (hu_of hr) (show PE _ _ (tFld K (tVar 0) (Str.ofString "pairs")) from pe_fld (pv 0) rfl) (pv 4) (fun _ _ => rfl)) (by rfl))) (fun _ _ _ _ _ => pv 4)))) rfl))))))))), ?_⟩
    refine ⟨_, rfl, dm, ms, rfl, hm, mok, fun H1 s1 => ?_⟩
    refine ⟨_, rfl, _, rfl, dm, de, ms, es, rfl, s1 _ _ hm, s1 _ _ he, eok.same s1, fun H2 s2 => ?_⟩
    obtain ⟨mnd, mfew, mnode, mmark⟩ := mok
    obtain ⟨end_, efew, ename, epair⟩ := eok
    have s12 := s1.trans s2
    -- self.marks
    dsimp only
    refine cut (t1 := sFld K (tVar 0) (tDc _ _ _ _ _ _) (Str.ofString "marks")) (fun σ' H' => ∃ (a1 : Addr) (ms' : List (Int × Int)), σ' = [some (.ref x), some (.ref dm), some (.ref de), none, none] ∧ Kp x H H' ∧ H a1 = none ∧ H' x = some (.ins C dx (putF "marks" (.ref a1) [])) ∧ H' a1 = some (.dK (marksK ms')) ∧ ms'.Perm ms ∧ (ms'.map (·.1)).Pairwise (· < ·)) (fun σ1 H3 hp => ?tail1) (fun N1 hN1 => ?head1)
    case head1 =>
      refine fld_dc (fun J Hs => ∃ (ms' : List (Int × Int)) (p : Addr), J = Itl K p ∧ ms'.Perm ms ∧ (ms'.map (·.1)).Pairwise (· < ·) ∧ Same H2 Hs ∧ Hs p = some (.lst ((ms'.map (·.1)).map V.int)))
        (fun R hR => ⟨_, rfl, dm, _, _, rfl, .inl (s12 _ _ hm), keysM ms, by rw [List.length_map]; exact mfew, fun ks p pk rk np => ⟨p, rfl, ⟨_, SqL.of upd_same⟩, ?_⟩⟩) ?_
      · obtain ⟨ms', pm, rfl⟩ := perm_lift (·.1) ks ms pk
        exact hR _ _ ⟨ms', p, rfl, pm, rise_lt rk (pk.nodup_iff.mpr mnd), same_upd np, upd_same⟩
      · rintro J Hs ⟨ms', p, rfl, pm, rise, sm, hp⟩
        have nd' : (ms'.map (·.1)).Nodup := rise.imp fun hab e => by rw [e] at hab; exact Int.lt_irrefl _ hab
        have w := walk_list (K := K) (a := p) (xs := (ms'.map (·.1)).map V.int)
        have wl : ((ms'.map (·.1)).map V.int).length = ms'.length := by rw [List.length_map, List.length_map]
        rw [wl] at w
        refine dc_walk w (fun D i H' => Same Hs H' ∧ H' D = some (.dK (marksK (ms'.take i)))) (fun D fresh => ⟨same_upd fresh, upd_same⟩) (fun D i H' _ hv => SqL.of (hv.1 _ _ hp)) ?_ ?_
        · rintro D i v H4 H5 fresh hi ⟨sD, hD⟩ ⟨rfl, hv⟩
          have ev : v = V.int ms'[i].1 := by
            rw [List.map_map, List.getElem?_map, List.getElem?_eq_getElem hi] at hv
            exact (Option.some.inj hv).symm
          subst ev
          have look : valV (marksK ms) (Sum.inl ms'[i].1) = some (.int ms'[i].2) := mark_at mnd (pm.mem_iff.mp (List.getElem_mem hi))
          have got : DGet H5 dm (.int ms'[i].1) (some (.int ms'[i].2)) := look ▸ DGet.k (k := Sum.inl ms'[i].1) (sD _ _ (sm _ _ (s12 _ _ hm)))
          refine ⟨rfl, ?_⟩
          refine ⟨_, rfl, _, rfl, _, rfl, dm, _, rfl, got, _, Sum.inl ms'[i].1, rfl, hD, ?_, same_put sD fresh, ?_⟩
          · unfold marksK
            rw [List.length_map, List.length_take]
            have := pm.length_eq
            exact small1000 (by omega)
          · rw [upd_same, marksK_take hi nd']
        · rintro D H4 fresh ⟨sD, hD⟩
          have nDx : x ≠ D := ne_of_none (sm _ _ (s12 _ _ hx)) fresh
          rw [List.take_length] at hD
          refine ⟨_, rfl, x, C, dx, [], rfl, sD _ _ (sm _ _ (s12 _ _ hx)), U.cl, U.nM, (by show 0 < 1000; decide), ?_⟩
          refine hN1 _ _ ⟨D, ms', rfl, ?_, (s12.trans sm).free fresh, upd_same, by rw [upd_ne nDx.symm]; exact hD, pm, rise⟩
          exact fun q o nq hq => by rw [upd_ne nq]; exact sD _ _ (sm _ _ (s12 _ _ hq))
    case tail1 =>
    obtain ⟨a1, ms', rfl, K3, fa1, hx3, ha1, pm, rise⟩ := hp
    have nxd : de ≠ x := ne_of he hx (by intro z; cases z)
    have nxm : dm ≠ x := ne_of hm hx (by intro z; cases z)
    have epx : ∀ e ∈ es, e.pair ≠ x := fun e hee => ne_of (epair e hee).1 hx (by intro z; cases z)
    have na1x : a1 ≠ x := fun z => by rw [z, hx] at fa1; cases fa1
    -- self.pairs
    refine cut (t1 := sFld K (tVar 0) (tDc _ _ _ _ _ _) (Str.ofString "pairs")) (fun σ' H' => ∃ (a2 : Addr) (es' : List Edg), σ' = [some (.ref x), some (.ref dm), some (.ref de), none, none] ∧ Kp x H H' ∧ H a2 = none ∧ a2 ≠ a1 ∧ H' x = some (.ins C dx (putF "pairs" (.ref a2) (putF "marks" (.ref a1) []))) ∧ H' a1 = some (.dK (marksK ms')) ∧ H' a2 = some (.dK (endsK es'))
        ∧ (es'.map (·.letter)).Pairwise (· < ·) ∧ (es'.map fun e => (e.letter, e.lo, e.hi)).Perm (es.map fun e => (e.letter, min e.lo e.hi, max e.lo e.hi)) ∧ ∀ e ∈ es', H' e.pair = some (.tup [.int e.lo, .int e.hi])) (fun σ1 H6 hp => ?tail2) (fun N2 hN2 => ?head2)
    case head2 =>
      refine fld_dc (fun J Hs => ∃ (e1 : List Edg) (p : Addr), J = Itl K p ∧ e1.Perm es ∧ (e1.map (·.letter)).Pairwise (· < ·) ∧ Same H3 Hs ∧ Hs p = some (.lst ((e1.map fun e => txt [e.letter]).map V.str)))
        (fun R hR => ⟨_, rfl, de, _, _, rfl, .inl (K3 _ _ nxd he), keysE es, by rw [List.length_map]; exact efew, fun ys p py ry np => ⟨p, rfl, ⟨_, SqL.of upd_same⟩, ?_⟩⟩) ?_
      · obtain ⟨e1, pe, rfl⟩ := perm_lift (fun e : Edg => txt [e.letter]) ys es py
        refine hR _ _ ⟨e1, p, rfl, pe, ?_, same_upd np, upd_same⟩
        have r2 : sortedS ((e1.map (·.letter)).map fun d => txt [d]) = true := by
          rw [List.map_map]
          exact ry
        exact letters_rise r2 ((pe.map _).nodup_iff.mpr end_)
      · rintro J Hs ⟨e1, p, rfl, pe, rise1, sm, hp⟩
        have w := walk_list (K := K) (a := p) (xs := (e1.map fun e => txt [e.letter]).map V.str)
        have wl : ((e1.map fun e => txt [e.letter]).map V.str).length = e1.length := by rw [List.length_map, List.length_map]
        rw [wl] at w
        refine dc_walk w (fun D i H' => Same Hs H' ∧ ∃ e2 : List Edg, H' D = some (.dK (endsK e2)) ∧ e2.length = i ∧ (e2.map fun e => (e.letter, e.lo, e.hi)) = (e1.take i).map (fun e => (e.letter, min e.lo e.hi, max e.lo e.hi)) ∧ ∀ e ∈ e2, H' e.pair = some (.tup [.int e.lo, .int e.hi]))
          (fun D fresh => ⟨same_upd fresh, [], upd_same, rfl, rfl, fun e hee => absurd hee List.not_mem_nil⟩) (fun D i H' _ hv => SqL.of (hv.1 _ _ hp)) ?_ ?_
        · rintro D i v H4 H5 fresh hi ⟨sD, e2, hD, l2, em, et⟩ ⟨rfl, hv⟩
          have ev : v = V.str (txt [e1[i].letter]) := by
            rw [List.map_map, List.getElem?_map, List.getElem?_eq_getElem hi] at hv
            exact (Option.some.inj hv).symm
          subst ev
          have mem : e1[i] ∈ es := pe.mem_iff.mp (List.getElem_mem hi)
          have look : valV (endsK es) (Sum.inr (txt [e1[i].letter])) = some (.ref e1[i].pair) := end_at end_ mem
          have up5 : ∀ q o, q ≠ x → H q = some o → H5 q = some o := fun q o nq hq => sD _ _ (sm _ _ (K3 q o nq hq))
          have got : DGet H5 de (.str (txt [e1[i].letter])) (some (.ref e1[i].pair)) := look ▸ DGet.k (k := Sum.inr (txt [e1[i].letter])) (up5 _ _ nxd he)
          refine ⟨rfl, ?_⟩
          refine ⟨_, rfl, _, rfl, _, rfl, de, _, rfl, got, e1[i].pair, e1[i].lo, e1[i].hi, rfl, up5 _ _ (epx _ mem) (epair _ mem).1, fun l nl => ?_⟩
          refine ⟨l, _, rfl, upd_same, fun t nt => ?_⟩
          have sl : Same H5 (upd H5 l (.lst [.int (min e1[i].lo e1[i].hi), .int (max e1[i].lo e1[i].hi)])) := same_upd nl
          have st := sl.trans (same_upd (o := .tup [.int (min e1[i].lo e1[i].hi), .int (max e1[i].lo e1[i].hi)]) nt)
          have ntD : t ≠ D := fun z => by rw [z, sl _ _ hD] at nt; cases nt
          have fresh2 : (Sum.inr (txt [e1[i].letter]) : Key) ∉ (endsK e2).map (·.1) := fun z => by
            unfold endsK at z
            rw [List.map_map] at z
            obtain ⟨e, hee, ez⟩ := List.mem_map.mp z
            have ez2 : e.letter = e1[i].letter := List.head_eq_of_cons_eq (txt_inj (Sum.inr.inj ez))
            have lm : e.letter ∈ (e1.take i).map (·.letter) := by
              have q1 : (e2.map fun e => (e.letter, e.lo, e.hi)).map (·.1) = ((e1.take i).map fun e => (e.letter, min e.lo e.hi, max e.lo e.hi)).map (·.1) := by rw [em]
              rw [List.map_map, List.map_map] at q1
              have q2 : e2.map (·.letter) = (e1.take i).map (·.letter) := q1
              rw [← q2]
              exact List.mem_map.mpr ⟨e, hee, rfl⟩
            rw [ez2] at lm
            obtain ⟨j, hj, ej⟩ := List.mem_iff_getElem.mp lm
            rw [List.length_map, List.length_take] at hj
            rw [List.getElem_map, List.getElem_take] at ej
            have up := List.pairwise_iff_getElem.mp rise1 j i (by rw [List.length_map]; omega) (by rw [List.length_map]; exact hi) (by omega)
            rw [List.getElem_map, List.getElem_map, ej] at up
            exact Nat.lt_irrefl _ up
          refine ⟨_, Sum.inr (txt [e1[i].letter]), rfl, st _ _ hD, ?_, same_put (sD.trans st) fresh, e2 ++ [⟨e1[i].letter, t, min e1[i].lo e1[i].hi, max e1[i].lo e1[i].hi⟩], ?_, by rw [List.length_append, l2]; rfl, ?_, ?_⟩
          · unfold endsK
            rw [List.length_map, l2]
            have := pe.length_eq
            exact small1000 (by omega)
          · rw [upd_same, putK_new _ (valV_fresh fresh2)]
            unfold endsK
            rw [List.map_append]
            rfl
          · rw [List.map_append, em, List.take_succ_eq_append_getElem hi, List.map_append]
            rfl
          · intro e hee
            rcases List.mem_append.mp hee with q | q
            · have old := et e q
              have nD' : e.pair ≠ D := fun z => by rw [z, hD] at old; cases old
              rw [upd_ne nD']
              exact st _ _ old
            · rw [List.mem_singleton.mp q]
              show (upd (upd _ t _) D _) t = _
              rw [upd_ne ntD, upd_same]
        · rintro D H4 fresh ⟨sD, e2, hD, l2, em, et⟩
          have hx4 := sD _ _ (sm _ _ hx3)
          have nDx : x ≠ D := ne_of_none (sm _ _ hx3) fresh
          have nDa : a1 ≠ D := ne_of_none (sm _ _ ha1) fresh
          have fH : H D = none := by
            cases hq : H D with
            | none => rfl
            | some o =>
              have z := sm _ _ (K3 D o nDx.symm hq)
              rw [fresh] at z
              cases z
          rw [List.take_length] at em
          refine ⟨_, rfl, x, C, dx, _, rfl, hx4, U.cl, U.nP, (by show 1 < 1000; decide), ?_⟩
          refine hN2 _ _ ⟨D, e2, rfl, ?_, fH, nDa.symm, upd_same, by rw [upd_ne na1x]; exact sD _ _ (sm _ _ ha1), by rw [upd_ne nDx.symm]; exact hD, ?_, ?_, ?_⟩
          · exact fun q o nq hq => by rw [upd_ne nq]; exact sD _ _ (sm _ _ (K3 q o nq hq))
          · have q1 : (e2.map fun e => (e.letter, e.lo, e.hi)).map (·.1) = (e1.map fun e => (e.letter, min e.lo e.hi, max e.lo e.hi)).map (·.1) := by rw [em]
            rw [List.map_map, List.map_map] at q1
            have q2 : e2.map (·.letter) = e1.map (·.letter) := q1
            rw [q2]
            exact rise1
          · rw [em]
            exact pe.map _
          · intro e hee
            have old := et e hee
            have nx : e.pair ≠ x := ne_of old hx4 (by intro z; cases z)
            rw [upd_ne nx]
            exact old
    case tail2 =>
    obtain ⟨a2, es', rfl, K6, fa2, na21, hx6, ha16, ha26, erise, eperm, etup⟩ := hp
    -- self.stars
    intro a3 na3
    have hx7 := (same_upd (o := .dK []) na3) _ _ hx6
    have na3x : a3 ≠ x := fun z => by rw [z, hx6] at na3; cases na3
    have na31 : a3 ≠ a1 := fun z => by rw [z, ha16] at na3; cases na3
    have na32 : a3 ≠ a2 := fun z => by rw [z, ha26] at na3; cases na3
    have na2x : a2 ≠ x := fun z => by rw [z, hx] at fa2; cases fa2
    refine ⟨_, rfl, x, C, dx, _, rfl, hx7, U.cl, U.nS, (by show 2 < 1000; decide), ?_⟩
    have K8 : Kp x H (upd (upd H6 a3 (.dK [])) x (.ins C dx (webF a1 a2 a3))) := fun q o nq hq => by
      rw [upd_ne nq]
      exact (same_upd na3) _ _ (K6 q o nq hq)
    have hx8 : (upd (upd H6 a3 (.dK [])) x (.ins C dx (webF a1 a2 a3))) x = some (.ins C dx (webF a1 a2 a3)) := upd_same
    have h18 : (upd (upd H6 a3 (.dK [])) x (.ins C dx (webF a1 a2 a3))) a1 = some (.dK (marksK ms')) := by rw [upd_ne na1x]; exact (same_upd na3) _ _ ha16
    have h28 : (upd (upd H6 a3 (.dK [])) x (.ins C dx (webF a1 a2 a3))) a2 = some (.dK (endsK es')) := by rw [upd_ne na2x]; exact (same_upd na3) _ _ ha26
    have h38 : (upd (upd H6 a3 (.dK [])) x (.ins C dx (webF a1 a2 a3))) a3 = some (.dK []) := by rw [upd_ne na3x, upd_same]
    have t8 : ∀ e ∈ es', (upd (upd H6 a3 (.dK [])) x (.ins C dx (webF a1 a2 a3))) e.pair = some (.tup [.int e.lo, .int e.hi]) := fun e hee => by
      have nx : e.pair ≠ x := ne_of (etup e hee) hx6 (by intro z; cases z)
      rw [upd_ne nx]
      exact (same_upd na3) _ _ (etup e hee)
    have f3 : H a3 = none := by
      cases hq : H a3 with
      | none => rfl
      | some o =>
        have z := K6 a3 o na3x hq
        rw [na3] at z
        cases z
    show tLock _ _ _ (upd (upd H6 a3 (.dK [])) x (.ins C dx (webF a1 a2 a3)))
    generalize upd (upd H6 a3 (.dK [])) x (.ins C dx (webF a1 a2 a3)) = H8 at K8 hx8 h18 h28 h38 t8 ⊢
    refine ⟨a1, _, h18, trivial, fun od => ?_⟩
    have nd' : (ms'.map (·.1)).Nodup := rise.imp fun hab e => by rw [e] at hab; exact Int.lt_irrefl _ hab
    have elen : es'.length = es.length := by
      have q := eperm.length_eq
      rw [List.length_map, List.length_map] at q
      exact q
    have end' : (es'.map (·.letter)).Nodup := erise.imp fun hab e => by rw [e] at hab; exact Nat.lt_irrefl _ hab
    have hx9 : (upd H8 a1 (.frz od (.dK (marksK ms')))) x = some (.ins C dx (webF a1 a2 a3)) := by rw [upd_ne na1x.symm]; exact hx8
    have h19 : (upd H8 a1 (.frz od (.dK (marksK ms')))) a1 = some (.frz od (.dK (marksK ms'))) := upd_same
    have h29 : (upd H8 a1 (.frz od (.dK (marksK ms')))) a2 = some (.dK (endsK es')) := by rw [upd_ne na21]; exact h28
    have h39 : (upd H8 a1 (.frz od (.dK (marksK ms')))) a3 = some (.dK []) := by rw [upd_ne na31]; exact h38
    have t9 : ∀ e ∈ es', (upd H8 a1 (.frz od (.dK (marksK ms')))) e.pair = some (.tup [.int e.lo, .int e.hi]) := fun e hee => by
      have n1 : e.pair ≠ a1 := ne_of (t8 e hee) h18 (by intro z; cases z)
      rw [upd_ne n1]
      exact t8 e hee
    have back : ∀ q o, q ≠ x → H q = some o → q ≠ a1 → (upd H8 a1 (.frz od (.dK (marksK ms')))) q = some o := fun q o nq hq n1 => by
      rw [upd_ne n1]
      exact K8 q o nq hq
    generalize upd H8 a1 (.frz od (.dK (marksK ms'))) = H9 at hx9 h19 h29 h39 t9 back ⊢
    refine ⟨_, rfl, x, C, dx, _, _, rfl, hx9, U.cl, U.nM, webF_marks _ _ _, a1, od, rfl, .inl ⟨marksK ms', h19, ?_⟩⟩
    have wk := walk_keys (d := a1) (o := od) (kvs := marksK ms')
    have wkl : (marksK ms').length = ms'.length := by unfold marksK; rw [List.length_map]
    rw [wkl] at wk
    refine for_it wk (fun i σ H' => ∃ y, σ = [some (.ref x), some (.ref dm), some (.ref de), y, none] ∧ Kp a3 H9 H' ∧ H' a3 = some (.dK (starsK (ms'.take i) es'))) ⟨none, rfl, Kp.refl _ _, h39⟩ (fun i σ H' _ ⟨_, _, kp, _⟩ => kp _ _ na31.symm h19) ?_ ?_
    · rintro i v σ H10 H11 hi ⟨y, rfl, kp, h3⟩ ⟨rfl, k, vv, hkv, rfl⟩
      have ek : k = Sum.inl ms'[i].1 := by
        unfold marksK at hkv
        rw [List.getElem?_map, List.getElem?_eq_getElem hi] at hkv
        exact (congrArg Prod.fst (Option.some.inj hkv)).symm
      subst ek
      have hx10 := kp _ _ na3x.symm hx9
      have h210 := kp _ _ na32.symm h29
      have t10 : ∀ e ∈ es', H11 e.pair = some (.tup [.int e.lo, .int e.hi]) := fun e hee => kp _ _ (ne_of (t9 e hee) h39 (by intro z; cases z)) (t9 e hee)
      refine ⟨⟨_, rfl⟩, a2, _, h210, trivial, fun o2 => ?_⟩
      have hx12 : (upd H11 a2 (.frz o2 (.dK (endsK es')))) x = some (.ins C dx (webF a1 a2 a3)) := by rw [upd_ne na2x.symm]; exact hx10
      have t12 : ∀ e ∈ es', (upd H11 a2 (.frz o2 (.dK (endsK es')))) e.pair = some (.tup [.int e.lo, .int e.hi]) := fun e hee => by
        have n2 : e.pair ≠ a2 := ne_of (t10 e hee) h210 (by intro z; cases z)
        rw [upd_ne n2]
        exact t10 e hee
      refine ⟨_, rfl, x, C, dx, _, _, rfl, hx12, U.cl, U.nP, webF_pairs _ _ _, a2, o2, rfl, .inl ⟨endsK es', upd_same, fun D nD => ?_⟩⟩
      have we := walk_keys (d := a2) (o := o2) (kvs := endsK es')
      have wel : (endsK es').length = es'.length := by unfold endsK; rw [List.length_map]
      rw [wel] at we
      refine lc_it we (fun j H' => Same (upd H11 a2 (.frz o2 (.dK (endsK es')))) H' ∧ H' D = some (.lst ((star (es'.take j) ms'[i].1).map sig))) ⟨same_upd nD, upd_same⟩ (fun j H' _ hv => hv.1 _ _ upd_same) ?_ ?_
      · rintro j v H13 H14 hj ⟨sD, hD⟩ ⟨rfl, k2, v2, hk2, rfl⟩
        have ek2 : k2 = Sum.inr (txt [es'[j].letter]) := by
          unfold endsK at hk2
          rw [List.getElem?_map, List.getElem?_eq_getElem hj] at hk2
          exact (congrArg Prod.fst (Option.some.inj hk2)).symm
        subst ek2
        have look : valV (endsK es') (Sum.inr (txt [es'[j].letter])) = some (.ref es'[j].pair) := end_at end' (List.getElem_mem hj)
        have got : DGet H14 a2 (.str (txt [es'[j].letter])) (some (.ref es'[j].pair)) := .inl ⟨endsK es', Sum.inr (txt [es'[j].letter]), .inr ⟨o2, sD _ _ upd_same⟩, rfl, look.symm⟩
        refine ⟨rfl, ?_⟩
        refine ⟨_, rfl, _, rfl, x, C, dx, _, _, rfl, sD _ _ hx12, U.cl, U.nP, webF_pairs _ _ _, _, rfl, a2, _, rfl, got, es'[j].pair, _, rfl, .inr (.inl (.inl (sD _ _ (t12 _ (List.getElem_mem hj))))), rfl, rfl, _, rfl, ?_⟩
        show if inV (.int ms'[i].1) [.int es'[j].lo, .int es'[j].hi] = true then _ else _
        rw [in_two]
        refine ite2 (fun c => ?_) (fun c => ?_)
        · have c' := of_decide_eq_true c
          refine ⟨_, rfl, _, hD, ?_, same_put sD nD, ?_⟩
          · rw [List.length_map]
            have q1 := star_len (es'.take j) ms'[i].1
            rw [List.length_take] at q1
            exact small1000 (by omega)
          · rw [upd_same, star_take hj, if_pos c', List.map_append]
            rfl
        · have c' : ¬ (es'[j].lo = ms'[i].1 ∨ es'[j].hi = ms'[i].1) := fun z => c (decide_eq_true z)
          refine ⟨sD, ?_⟩
          rw [star_take hj, if_neg c', List.append_nil]
          exact hD
      · rintro H13 ⟨sD, hD⟩
        rw [List.take_length] at hD
        have un : Same H11 (upd H13 a2 (.dK (endsK es'))) := unlock h210 sD
        have nDa2 : D ≠ a2 := fun z => by rw [z, upd_same] at nD; cases nD
        have hD2 : (upd H13 a2 (.dK (endsK es'))) D = some (.lst (((star es' ms'[i].1).map fun c => txt [c]).map V.str)) := by
          rw [upd_ne nDa2, hD, List.map_map]
          rfl
        have sl := star_len es' ms'[i].1
        refine ⟨sD _ _ upd_same, Str.ofString "", D, (star es' ms'[i].1).map (fun c => txt [c]), rfl, rfl, .inl (SqL.of hD2), ?_, ?_⟩
        · rw [len_ones, txt_empty, txt_len]
          simp
          omega
        rw [join_sigs]
        have h3' := un _ _ h3
        refine ⟨_, rfl, x, C, dx, _, _, rfl, un _ _ hx10, U.cl, U.nS, webF_stars _ _ _, _, rfl, a3, _, rfl, DPut.k (k := Sum.inl ms'[i].1) h3' ?_, ?_⟩
        · unfold starsK
          rw [List.length_map, List.length_take]
          have := pm.length_eq
          exact small1000 (by omega)
        refine ⟨_, rfl, fun q o nq hq => ?_, ?_⟩
        · rw [upd_ne nq]
          exact un _ _ (kp q o nq hq)
        · rw [upd_same, starsK_take hi nd']
    · rintro σ H10 ⟨y, rfl, kp, h3⟩
      rw [List.take_length] at h3
      refine ⟨kp _ _ na31.symm h19, ?_⟩
      have hx10 := kp _ _ na3x.symm hx9
      refine hand _ ms' es' ?_ ⟨dx, a1, a2, a3, by rw [upd_ne na1x.symm]; exact hx10, upd_same, by rw [upd_ne na21]; exact kp _ _ na32.symm h29, by rw [upd_ne na31]; exact h3, ?_⟩ ⟨pm, eperm⟩
      · intro q o nq hq
        have n1 : q ≠ a1 := fun z => by rw [z, fa1] at hq; cases hq
        have n3 : q ≠ a3 := fun z => by rw [z, f3] at hq; cases hq
        rw [upd_ne n1]
        exact kp _ _ n3 (back q o nq hq n1)
      · have memE : ∀ e ∈ es', ∃ e0 ∈ es, e.letter = e0.letter ∧ e.lo = min e0.lo e0.hi ∧ e.hi = max e0.lo e0.hi := fun e hee => by
          obtain ⟨e0, h0, q0⟩ := List.mem_map.mp (eperm.mem_iff.mp (List.mem_map.mpr ⟨e, hee, rfl⟩))
          have a := congrArg Prod.fst q0
          have b := congrArg (fun z => z.2.1) q0
          have c := congrArg (fun z => z.2.2) q0
          exact ⟨e0, h0, a.symm, b.symm, c.symm⟩
        have keyP : ∀ n, n ∈ ms.map (·.1) → n ∈ ms'.map (·.1) := fun n hn => (pm.map _).mem_iff.mpr hn
        refine ⟨rise, fun m hmm => mnode m (pm.mem_iff.mp hmm), fun m hmm => mmark m (pm.mem_iff.mp hmm), erise, ?_, ?_, ?_, ?_⟩
        · intro e hee
          obtain ⟨e0, h0, q1, _, _⟩ := memE e hee
          rw [q1]
          exact ename e0 h0
        · intro e hee
          have n1 : e.pair ≠ a1 := ne_of (t9 e hee) h19 (by intro z; cases z)
          have n3 : e.pair ≠ a3 := ne_of (t9 e hee) h39 (by intro z; cases z)
          rw [upd_ne n1]
          exact kp _ _ n3 (t9 e hee)
        · intro e hee
          obtain ⟨e0, h0, _, q2, q3⟩ := memE e hee
          have := (epair e0 h0).2.1
          omega
        · intro e hee
          obtain ⟨e0, h0, _, q2, q3⟩ := memE e hee
          obtain ⟨_, _, m1, m2⟩ := epair e0 h0
          constructor
          · rw [q2]
            rcases Int.le_total e0.lo e0.hi with c | c
            · rw [Int.min_eq_left c]; exact keyP _ m1
            · rw [Int.min_eq_right c]; exact keyP _ m2
          · rw [q3]
            rcases Int.le_total e0.lo e0.hi with c | c
            · rw [Int.max_eq_right c]; exact keyP _ m2
            · rw [Int.max_eq_left c]; exact keyP _ m1
end


end T78

/-! the notes of a web -/
namespace Tm
open PySem PySem.Spec PyProof.Rows L2
abbrev Tri := Nat × Int × Int
/-- two edges share an end -/
def meetT (a b : Tri) : Bool := decide (b.2.1 = a.2.1 ∨ b.2.2 = a.2.1) || decide (b.2.1 = a.2.2 ∨ b.2.2 = a.2.2)
def pairsT : List Tri → List (List Nat)
  | [] => []
  | a :: r => ((r.filter fun b => !meetT a b).map fun b => [a.1, b.1]) ++ pairsT r
def noteRow (ts : List Tri) (a : Tri) : List (List Nat) := (ts.filter fun b => decide (a.1 < b.1) && !meetT a b).map fun b => [a.1, b.1]
def notesT (ts : List Tri) : List (List Nat) := ts.flatMap (noteRow ts)
theorem notes_behind : ∀ (s p : List Tri), ((p ++ s).map (·.1)).Pairwise (· < ·) → s.flatMap (noteRow (p ++ s)) = pairsT s
  | [], _, _ => rfl
  | a :: r, p, h => by
    have rest := notes_behind r (p ++ [a]) (by rw [List.append_assoc]; exact h)
    rw [List.append_assoc] at rest
    rw [List.flatMap_cons]
    show noteRow (p ++ a :: r) a ++ r.flatMap (noteRow (p ++ ([a] ++ r))) = _
    rw [rest]
    show _ = ((r.filter fun b => !meetT a b).map fun b => [a.1, b.1]) ++ pairsT r
    congr 1
    unfold noteRow
    rw [List.map_append, List.pairwise_append] at h
    obtain ⟨_, hr, hp⟩ := h
    have e1 : (p.filter fun b => decide (a.1 < b.1) && !meetT a b) = [] := by
      rw [List.filter_eq_nil_iff]
      intro b hb
      have := hp b.1 (List.mem_map.mpr ⟨b, hb, rfl⟩) a.1 (List.mem_map.mpr ⟨a, List.mem_cons_self, rfl⟩)
      simp only [Bool.and_eq_true, decide_eq_true_eq, not_and]
      omega
    have e2 : (r.filter fun b => decide (a.1 < b.1) && !meetT a b) = r.filter fun b => !meetT a b := by
      apply List.filter_congr
      intro b hb
      have := (List.pairwise_cons.mp hr).1 b.1 (List.mem_map.mpr ⟨b, hb, rfl⟩)
      rw [decide_eq_true this, Bool.true_and]
    rw [List.filter_append, e1, List.nil_append, List.filter_cons, if_neg (by simp), e2]
theorem notes_pairs (ts : List Tri) (h : (ts.map (·.1)).Pairwise (· < ·)) : notesT ts = pairsT ts := notes_behind ts [] h
theorem pairs_len : ∀ ts : List Tri, (pairsT ts).length ≤ ts.length * ts.length
  | [] => Nat.zero_le _
  | a :: r => by
    show (((r.filter fun b => !meetT a b).map fun b => [a.1, b.1]) ++ pairsT r).length ≤ _
    rw [List.length_append, List.length_map]
    have h1 := List.length_filter_le (fun b => !meetT a b) r
    have h2 := pairs_len r
    have h3 : (r.length + 1) * (r.length + 1) = r.length * r.length + 2 * r.length + 1 := by
      rw [Nat.add_mul, Nat.mul_add]
      omega
    show _ ≤ (r.length + 1) * (r.length + 1)
    omega
def tw (ns : List Nat) : V := .str (txt ns)
/-- a walk with any body -/
theorem go_it {J : It} {n : Nat} {G : Hp → Prop} {Y : Nat → Hp → V → Hp → Prop} (walk : Walk J n G Y) {B : V → Hp → (Hp → Prop) → Prop} {H0 : Hp} {End : Hp → Prop} (Pv : Nat → Hp → Prop) (first : Pv 0 H0) (stay : ∀ i H, i ≤ n → Pv i H → G H)
    (turn : ∀ i x H H', i < n → Pv i H → Y i H x H' → B x H' (Pv (i + 1))) (done : ∀ H, Pv n H → End H) :
    ∃ W : Nat → Nat → Hp → Prop, (∃ m, W 0 m H0) ∧ ∀ i m H, W i m H → (J.stop i H ∧ End H) ∨ (J.go i H ∧ ∃ Nx : Hp → Prop, (∀ H', Nx H' → ∃ m', m' < m ∧ W (i + 1) m' H') ∧ ∀ x H', J.yld i H x H' → B x H' Nx) := by
  let W : Nat → Nat → Hp → Prop := fun i left H => i + left = n ∧ Pv i H
  refine ⟨W, ⟨n, Nat.zero_add n, first⟩, ?_⟩
  intro i left H here
  have stands := stay i H (by have := here.1; omega) here.2
  cases left with
  | zero =>
    have e : i = n := by have := here.1; omega
    rw [e] at here ⊢
    exact Or.inl ⟨walk.stops H stands, done H here.2⟩
  | succ k =>
    have lt : i < n := by have := here.1; omega
    refine Or.inr ⟨walk.goes i H lt stands, Pv (i + 1), ?_, ?_⟩
    · intro H' hp
      exact ⟨k, Nat.lt_succ_self k, by have := here.1; omega, hp⟩
    · intro x H' y
      exact turn i x H H' lt here.2 (walk.yields i H x H' lt stands y)
def spTouch (C : Addr) : Sp := fun vs H Q _ => ∃ (x : Addr) (e f : Edg) (ms : List (Int × Int)) (es : List Edg), vs = [.ref x, .str (txt [e.letter]), .str (txt [f.letter])] ∧ WebAt C H x ms es ∧ e ∈ es ∧ f ∈ es ∧ Q (.bl (meetT (tri e) (tri f))) H
def spNotes (C : Addr) : Sp := fun vs H Q _ => ∃ (x : Addr) (ms : List (Int × Int)) (es : List Edg), vs = [.ref x] ∧ WebAt C H x ms es ∧ es.length ≤ 24 ∧ ∀ H' p, Same H H' → H p = none → H' p = some (.lst ((notesT (es.map tri)).map tw)) → Q (.ref p) H'
def spLWebG (C : Addr) : Sp := fun vs H Q _ => ∃ (t : Addr) (ms : List (Int × Int)) (es : List Edg), vs = [.ref t] ∧ RawG H t ms es ∧
  ∀ H' x ms' es', Same H H' → WebAt C H' x ms' es' → Made ms ms' es es' → Q (.ref x) H'
def spMeets : Sp := fun vs H Q _ => ∃ (t : Addr) (e f : Edg) (ms : List (Int × Int)) (es : List Edg), vs = [.ref t, .str (txt [e.letter]), .str (txt [f.letter])] ∧ RawG H t ms es ∧ e ∈ es ∧ f ∈ es ∧ ∀ H', Same H H' → Q (.bl (meetT (tri e) (tri f))) H'
def spLPairs : Sp := fun vs H Q _ => ∃ (t : Addr) (ms : List (Int × Int)) (es : List Edg), vs = [.ref t] ∧ RawG H t ms es ∧ ∀ H' p ts, Same H H' → H p = none → ts.Perm (es.map tri) → (ts.map (·.1)).Pairwise (· < ·) → H' p = some (.lst ((pairsT ts).map tw)) → Q (.ref p) H'
theorem RawG.keep {H H' : Hp} {b l t : Addr} {ms : List (Int × Int)} {es : List Edg} (r : RawG H t ms es) (B : Bag H b l) (k : Kp b H H') : RawG H' t ms es := by
  obtain ⟨u, hb⟩ := B.hbl
  obtain ⟨dm, de, h1, h2, h3, h4, ⟨n1, n2, n3, h5⟩, h6⟩ := r
  have ne : ∀ {a : Addr} {o : HO}, H a = some o → (∀ u, o ≠ .lst u) → a ≠ b := fun ha hn e => by
    rw [e, hb] at ha
    exact hn u (Option.some.inj ha).symm
  exact ⟨dm, de, k _ _ (ne h1 fun u z => by cases z) h1, k _ _ (ne h2 fun u z => by cases z) h2, k _ _ (ne h3 fun u z => by cases z) h3, h4, ⟨n1, n2, n3, fun e he => ⟨k _ _ (ne (h5 e he).1 fun u z => by cases z) (h5 e he).1, (h5 e he).2⟩⟩, h6⟩
end Tm

namespace T78
open PySem PySem.Spec PyProof.Rows L2 Tm
open ClX
abbrev sLWeb : Stmt := topS 53
theorem scLWeb : FnScope ["_law_raw_here"] ["_law_raw_here"] (defScope sLWeb) := ⟨rfl, rfl, rfl, by decide +kernel, rfl, by decide +kernel, by decide +kernel⟩
section
variable {P : Program} {w : World} {K : PySem.W.Frag} {mg : Str → Option Value} {base : Heap}
theorem ok_lwebg {f fI C : Addr} {fd fdI : FuncData} (F : Fun K "_law_web" "_law_web" sLWeb f fd) (M : Mk K C fI) (GI : FnOk P w K mg base CX0 3 fI fdI ["self", "marks", "edges"] (spWInit C)) (bI : Binds K fdI ["self", "marks", "edges"] [])
    (mw : mg "Web" = some (.ref C)) (md : mg "dict" = none) : FnOk P w K mg base CX0 5 f fd ["_law_raw_here"] (spLWebG C) := by
  refine F.ok scLWeb (fun vs H Q E h => ?_) (fun cdv A outer s H vs Q E hr h => ?_)
  · obtain ⟨t, ms, es, rfl, _⟩ := h
    rfl
  · obtain ⟨t, ms, es, rfl, ⟨dm, de, ht, hm, he, mok, eok, less⟩, q⟩ := h
    have st : SqT K H t [.ref dm, .ref de] := .inl (.inl ht)
    refine ⟨_, pss_one (ps_ret (pe_make M GI hr (by rfl) mw bI .nil pass0 (pa_cons (pe_callTy call_dictD (by rfl) md boot_dict (pa_cons (pe_ix ix_tup (pv 0) pe_int (fun _ _ => rfl)) pa_nil)) (pa_cons (pe_callTy call_dictD (by rfl) md boot_dict (pa_cons (pe_ix ix_tup (pv 0) pe_int (fun _ _ => rfl)) pa_nil)) pa_nil)))), ?_⟩
    refine ⟨_, rfl, t, _, 0, .ref dm, rfl, rfl, st, rfl, dm, _, rfl, .inl hm, fun d1 n1 => ?_⟩
    have s1 : Same H (upd H d1 (.dK (marksK ms))) := same_upd n1
    refine ⟨_, rfl, t, _, 1, .ref de, rfl, rfl, .inl (.inl (s1 _ _ ht)), rfl, de, _, rfl, .inl (s1 _ _ he), fun d2 n2 => ?_⟩
    have s2 := s1.trans (same_upd (o := .dK (endsK es)) n2)
    have h1 : (upd (upd H d1 (.dK (marksK ms))) d2 (.dK (endsK es))) d1 = some (.dK (marksK ms)) := (same_upd n2) _ _ upd_same
    have h2 : (upd (upd H d1 (.dK (marksK ms))) d2 (.dK (endsK es))) d2 = some (.dK (endsK es)) := upd_same
    generalize upd (upd H d1 (.dK (marksK ms))) d2 (.dK (endsK es)) = H2 at s2 h1 h2 ⊢
    intro x dx nx ndx nex
    have s3 : Same H2 (upd (upd H2 dx (.own x)) x (.ins C dx [])) := fun b o e => by
      rw [upd_ne (ne_of_none e nx), upd_ne (ne_of_none e ndx)]
      exact e
    have fx : H x = none := s2.free nx
    refine ⟨x, dx, d1, d2, ms, es, rfl, upd_same, s3 _ _ h1, s3 _ _ h2, ?_, ?_, fun H' ms' es' kp web made => ⟨rfl, ?_⟩⟩
    · exact mok
    · exact eok.same (s2.trans s3)
    · refine q H' x ms' es' (fun b o e => kp b o (fun z => by rw [z, fx] at e; cases e) (s3 _ _ (s2 _ _ e))) web made
end


end T78

/-! Texts put together and taken apart again. -/
namespace Tm
open PySem PySem.Spec PyProof.Rows L2 PySem.StrLaws PySem.Builtin PySem.Builtin.Str
def joinP (s : List Nat) : List (List Nat) → List Nat
  | [] => []
  | [p] => p
  | p :: q :: r => p ++ s ++ joinP s (q :: r)
theorem join_is (s : List Nat) : ∀ ps : List (List Nat), PySem.Str.join (txt s) (ps.map txt) = txt (joinP s ps)
  | [] => rfl
  | [p] => rfl
  | p :: q :: r => by
    have h := join_is s (q :: r)
    show txt p ++ txt s ++ PySem.Str.join (txt s) ((q :: r).map txt) = _
    rw [h, txt_app, txt_app]
    rfl
theorem glue_is (s : List Nat) (ps : List (List Nat)) : Txt.join (txt s) (ps.map txt) = txt (joinP s ps) := by
  show glued (txt s) (ps.map txt) = _
  rw [glued_eq_join, join_is]
theorem upto {c : Nat} {p t : List Nat} (h : c ∉ p) : (p ++ c :: t).takeWhile (fun x => decide (x ≠ c)) = p := by
  induction p with
  | nil => simp
  | cons x r ih =>
    have hx : x ≠ c := fun e => h (e ▸ List.mem_cons_self)
    have hr : c ∉ r := fun m => h (List.mem_cons_of_mem _ m)
    rw [List.cons_append, List.takeWhile_cons, decide_eq_true hx, if_pos rfl, ih hr]
theorem joinL_one {c : Nat} {r : List Nat} : ∀ ps qs : List (List Nat), ps ≠ [] → qs ≠ [] → (∀ p ∈ ps, c ∉ p) → (∀ q ∈ qs, c ∉ q) → joinP (c :: r) ps = joinP (c :: r) qs → ps = qs
  | [], _, h, _, _, _, _ => absurd rfl h
  | _, [], _, h, _, _, _ => absurd rfl h
  | [p], [q], _, _, _, _, e => by
    have e : p = q := e
    rw [e]
  | [p], q :: q2 :: t, _, _, hp, _, e => by
    have e : p = q ++ (c :: r) ++ joinP (c :: r) (q2 :: t) := e
    exact absurd (e ▸ List.mem_append_left _ (List.mem_append_right _ List.mem_cons_self)) (hp p List.mem_cons_self)
  | p :: p2 :: t, [q], _, _, _, hq, e => by
    have e : p ++ (c :: r) ++ joinP (c :: r) (p2 :: t) = q := e
    exact absurd (e ▸ List.mem_append_left _ (List.mem_append_right _ List.mem_cons_self)) (hq q List.mem_cons_self)
  | p :: p2 :: t, q :: q2 :: u, _, _, hp, hq, e => by
    have e : p ++ (c :: r) ++ joinP (c :: r) (p2 :: t) = q ++ (c :: r) ++ joinP (c :: r) (q2 :: u) := e
    rw [List.append_assoc, List.append_assoc, List.cons_append, List.cons_append] at e
    have w := congrArg (List.takeWhile (fun x => decide (x ≠ c))) e
    rw [upto (hp p List.mem_cons_self), upto (hq q List.mem_cons_self)] at w
    subst w
    have e2 := List.append_cancel_left e
    injection e2 with _ e2
    have e3 := List.append_cancel_left e2
    rw [joinL_one (p2 :: t) (q2 :: u) (by simp) (by simp) (fun x hx => hp x (List.mem_cons_of_mem _ hx)) (fun x hx => hq x (List.mem_cons_of_mem _ hx)) e3]
/-- every c begins the separator -/
def Opens (c : Nat) (r l : List Nat) : Prop := ∀ i, l[i]? = some c → (l.drop i).take (r.length + 1) = c :: r
theorem opens_join {c : Nat} {r : List Nat} (hr : c ∉ r) : ∀ ps : List (List Nat), (∀ p ∈ ps, c ∉ p) → Opens c r (joinP (c :: r) ps)
  | [], _, i, h => by cases h
  | [p], hp, i, h => absurd (List.mem_of_getElem? h) (hp p List.mem_cons_self)
  | p :: q :: t, hp, i, h => by
    have h : (p ++ (c :: r) ++ joinP (c :: r) (q :: t))[i]? = some c := h
    show ((p ++ (c :: r) ++ joinP (c :: r) (q :: t)).drop i).take (r.length + 1) = c :: r
    rw [List.append_assoc] at h ⊢
    by_cases h1 : i < p.length
    · rw [List.getElem?_append_left h1] at h
      exact absurd (List.mem_of_getElem? h) (hp p List.mem_cons_self)
    rw [List.getElem?_append_right (by omega)] at h
    rw [List.drop_append, List.drop_of_length_le (by omega), List.nil_append]
    generalize i - p.length = j at h ⊢
    cases j with
    | zero =>
      rw [List.drop_zero, List.cons_append, List.take_succ_cons, List.take_append_of_le_length (Nat.le_refl _), List.take_length]
    | succ j =>
      rw [List.cons_append, List.getElem?_cons_succ] at h
      rw [List.cons_append, List.drop_succ_cons]
      by_cases h2 : j < r.length
      · rw [List.getElem?_append_left h2] at h
        exact absurd (List.mem_of_getElem? h) hr
      rw [List.getElem?_append_right (by omega)] at h
      rw [List.drop_append, List.drop_of_length_le (by omega), List.nil_append]
      exact opens_join hr (q :: t) (fun x hx => hp x (List.mem_cons_of_mem _ hx)) _ h
theorem opens_at {c : Nat} {r : List Nat} {x : Str} (o : Opens c r x.cps.toList) {k : Nat} (h : x.cps.toList[k]? = some c) : At x (txt (c :: r)) x.length k := by
  have t := o k h
  have lenT : ((x.cps.toList.drop k).take (r.length + 1)).length = r.length + 1 := by rw [t]; rfl
  rw [List.length_take, List.length_drop, Array.length_toList (xs := x.cps)] at lenT
  have lw : (txt (c :: r)).length = r.length + 1 := txt_len _
  refine ⟨?_, ?_⟩
  · rw [lw]
    show k + (r.length + 1) ≤ x.cps.size
    omega
  · rw [subAt_eq, lw, t, txt_cps]
    exact beq_self_eq_true _
theorem piece_free {c : Nat} {r : List Nat} {x : Str} (o : Opens c r x.cps.toList) {a b : Nat} (hb : b ≤ x.length) (no : ∀ k, a ≤ k → k < b → ¬ At x (txt (c :: r)) x.length k) : c ∉ (strSub x a b).cps.toList := by
  intro m
  rw [strSub_toList] at m
  obtain ⟨j, hj⟩ := List.getElem?_of_mem m
  rw [List.getElem?_take] at hj
  by_cases lt : j < b - a
  · rw [if_pos lt, List.getElem?_drop] at hj
    exact no (a + j) (by omega) (by omega) (opens_at o hj)
  · rw [if_neg lt] at hj
    cases hj
theorem pieces_free {c : Nat} {r : List Nat} {x : Str} (o : Opens c r x.cps.toList) : ∀ (cuts : List Nat) (a f : Nat), ChainG x (txt (c :: r)) x.length a cuts f → (∀ k, f ≤ k → ¬ At x (txt (c :: r)) x.length k) → ∀ p ∈ partsFrom x (txt (c :: r)).length a cuts, c ∉ p.cps.toList
  | [], a, f, e, last, p, hp => by
    have e : f = a := e
    rw [List.mem_singleton.mp hp]
    exact piece_free o (Nat.le_refl _) fun k h1 _ => last k (by omega)
  | d :: t, a, f, chain, last, p, hp => by
    obtain ⟨_, here, gap, rest⟩ := chain
    rcases List.mem_cons.mp hp with hp | hp
    · rw [hp]
      have := here.1
      exact piece_free o (by omega) gap
    · exact pieces_free o t _ f rest last p hp
theorem split_apart {c : Nat} {r : List Nat} {x : Str} (kind : strKind (txt (c :: r)) = 1) (o : Opens c r x.cps.toList) : ∀ p ∈ Txt.split x (txt (c :: r)), c ∉ p.cps.toList := by
  have lw : (txt (c :: r)).length = r.length + 1 := txt_len _
  obtain ⟨f, chain, last⟩ := occ_tight x (txt (c :: r)) (by rw [lw]; omega)
  intro p hp
  unfold Txt.split at hp
  have whole : ∀ k, k < x.length → ¬ At x (txt (c :: r)) x.length k → x.cps.toList[k]? ≠ some c := fun k _ no h => no (opens_at o h)
  split at hp
  · rename_i short
    rw [List.mem_singleton.mp hp]
    intro m
    obtain ⟨k, hk⟩ := List.getElem?_of_mem m
    have at_ := (opens_at o hk).1
    rw [Bool.or_eq_true, decide_eq_true_eq, decide_eq_true_eq] at short
    rcases short with s | s
    · omega
    · rw [kind] at s
      have := strKind_pos x
      omega
  · split at hp
    · rename_i empty
      rw [List.isEmpty_iff.mp empty] at chain
      have f0 : f = 0 := chain
      rw [List.mem_singleton.mp hp]
      intro m
      obtain ⟨k, hk⟩ := List.getElem?_of_mem m
      exact last k (by omega) (opens_at o hk)
    · rw [partsBetween_eq] at hp
      exact pieces_free o _ 0 f chain last p hp
/-- put together and taken apart -/
theorem split_join {c : Nat} {r : List Nat} {ps : List (List Nat)} (kind : strKind (txt (c :: r)) = 1) (hr : c ∉ r) (ne : ps ≠ []) (free : ∀ p ∈ ps, c ∉ p) : Txt.split (txt (joinP (c :: r) ps)) (txt (c :: r)) = ps.map txt := by
  have o : Opens c r (txt (joinP (c :: r) ps)).cps.toList := by rw [txt_cps]; exact opens_join hr ps free
  have apart := split_apart kind o
  have back := join_split (txt (joinP (c :: r) ps)) (txt (c :: r))
  have some_ := PyProof.Rows.split_pos (txt (joinP (c :: r) ps)) (txt (c :: r))
  generalize Txt.split (txt (joinP (c :: r) ps)) (txt (c :: r)) = ys at apart back some_ ⊢
  have yt : ys = (ys.map fun y => y.cps.toList).map txt := by
    rw [List.map_map]
    have e : (txt ∘ fun y : Str => y.cps.toList) = _root_.id := funext fun y => txt_of y
    rw [e, List.map_id]
  rw [yt, join_is] at back
  have e := joinL_one (c := c) (r := r) (ys.map fun y => y.cps.toList) ps (by intro z; rw [List.map_eq_nil_iff.mp z] at some_; exact absurd some_ (by decide)) ne (fun q hq => by
    obtain ⟨y, hy, rfl⟩ := List.mem_map.mp hq
    exact apart y hy) free (txt_inj back)
  rw [yt, e]
end Tm

/-! The texts of webs. -/
namespace Tm
open PySem PySem.Spec PyProof.Rows L2 PySem.StrLaws PySem.Builtin PySem.Builtin.Str
def numL (n : Int) : List Nat := (Str.ofString (toString n)).cps.toList
theorem num_txt (n : Int) : Str.ofString (toString n) = txt (numL n) := (txt_of _).symm
structure NumIs (n : Int) : Prop where
  one : 1 ≤ (numL n).length
  few : (numL n).length ≤ 2
  blank : 32 ∉ numL n
  star : 42 ∉ numL n
  semi : 59 ∉ numL n
  back : intText? (txt (numL n)) = some n
theorem num_all : ∀ n : Nat, n < 12 → (1 ≤ (numL n).length ∧ (numL n).length ≤ 2 ∧ 32 ∉ numL n ∧ 42 ∉ numL n ∧ 59 ∉ numL n ∧ intText? (txt (numL n)) = some (n : Int)) := by decide +kernel
theorem num_is {n : Int} (h0 : 0 ≤ n) (h1 : n < 12) : NumIs n := by
  obtain ⟨k, rfl⟩ := Int.eq_ofNat_of_zero_le h0
  obtain ⟨a, b, c, d, e, f⟩ := num_all k (by omega)
  exact ⟨a, b, c, d, e, f⟩
theorem num_inj : ∀ n : Nat, n < 12 → ∀ m : Nat, m < 12 → numL n = numL m → n = m := by decide +kernel
theorem num_one {n m : Int} (h0 : 0 ≤ n) (h1 : n < 12) (g0 : 0 ≤ m) (g1 : m < 12) (e : numL n = numL m) : n = m := by
  obtain ⟨k, rfl⟩ := Int.eq_ofNat_of_zero_le h0
  obtain ⟨j, rfl⟩ := Int.eq_ofNat_of_zero_le g0
  rw [num_inj k (by omega) j (by omega) e]
def nodeL (m : Int × Int) : List Nat := numL m.1 ++ (if m.2 = 1 then [42] else [])
def edgeL (t : Nat × Int × Int) : List Nat := joinP [32] [[t.1], numL t.2.1, numL t.2.2]
def textL (ms : List (Int × Int)) (ts : List (Nat × Int × Int)) : List Nat := joinP [59, 32] (joinP [32] (ms.map nodeL) :: ts.map edgeL)
theorem edge_is (t : Nat × Int × Int) : edgeL t = (([t.1] ++ [32]) ++ numL t.2.1) ++ [32] ++ numL t.2.2 := by
  show [t.1] ++ [32] ++ (numL t.2.1 ++ [32] ++ numL t.2.2) = _
  simp
theorem in_join {x : Nat} {s : List Nat} : ∀ {ps : List (List Nat)}, x ∈ joinP s ps → x ∈ s ∨ ∃ p ∈ ps, x ∈ p
  | [], h => by cases h
  | [p], h => .inr ⟨p, List.mem_cons_self, h⟩
  | p :: q :: r, h => by
    have h : x ∈ p ++ s ++ joinP s (q :: r) := h
    rcases List.mem_append.mp h with h | h
    · rcases List.mem_append.mp h with h | h
      · exact .inr ⟨p, List.mem_cons_self, h⟩
      · exact .inl h
    · rcases in_join h with h | ⟨y, hy, h⟩
      · exact .inl h
      · exact .inr ⟨y, List.mem_cons_of_mem _ hy, h⟩
/-- what a written web has -/
structure Written (ms : List (Int × Int)) (ts : List (Nat × Int × Int)) : Prop where
  rise : (ms.map (·.1)).Pairwise (· < ·)
  node : ∀ m ∈ ms, 0 ≤ m.1 ∧ m.1 < 12
  mark : ∀ m ∈ ms, m.2 = 0 ∨ m.2 = 1
  risE : (ts.map (·.1)).Pairwise (· < ·)
  name : ∀ t ∈ ts, t.1 ∈ alpha
  less : ∀ t ∈ ts, t.2.1 < t.2.2
  ends : ∀ t ∈ ts, t.2.1 ∈ ms.map (·.1) ∧ t.2.2 ∈ ms.map (·.1)
section
variable {ms : List (Int × Int)} {ts : List (Nat × Int × Int)}
theorem Written.few (w : Written ms ts) : ms.length ≤ 12 ∧ ts.length ≤ 24 := by
  have a := few_nodes (ms.map (·.1)) 0 (fun k hk => by obtain ⟨m, hm, rfl⟩ := List.mem_map.mp hk; exact w.node m hm) w.rise (by decide)
  have c := few_letters (ts.map (·.1)) 97 (fun k hk => by obtain ⟨e, he, rfl⟩ := List.mem_map.mp hk; exact alpha_range (w.name e he)) w.risE (by decide)
  rw [List.length_map] at a c
  omega
theorem Written.end_ (w : Written ms ts) {t : Nat × Int × Int} (h : t ∈ ts) : (0 ≤ t.2.1 ∧ t.2.1 < 12) ∧ (0 ≤ t.2.2 ∧ t.2.2 < 12) := by
  obtain ⟨a, b⟩ := w.ends t h
  obtain ⟨m, hm, e⟩ := List.mem_map.mp a
  obtain ⟨k, hk, f⟩ := List.mem_map.mp b
  rw [← e, ← f]
  exact ⟨w.node m hm, w.node k hk⟩
theorem node_free (w : Written ms ts) {m : Int × Int} (h : m ∈ ms) : 32 ∉ nodeL m ∧ 59 ∉ nodeL m ∧ (nodeL m).length ≤ 3 := by
  have n := num_is (w.node m h).1 (w.node m h).2
  unfold nodeL
  have := n.few
  by_cases c : m.2 = 1
  · rw [if_pos c]
    refine ⟨fun z => ?_, fun z => ?_, by rw [List.length_append]; show _ + 1 ≤ 3; omega⟩
    · rcases List.mem_append.mp z with z | z
      · exact n.blank z
      · exact absurd z (by decide)
    · rcases List.mem_append.mp z with z | z
      · exact n.semi z
      · exact absurd z (by decide)
  · rw [if_neg c, List.append_nil]
    exact ⟨n.blank, n.semi, by omega⟩
theorem alpha_plain {c : Nat} (h : c ∈ alpha) : c ≠ 32 ∧ c ≠ 59 := by
  have := alpha_range h
  omega
theorem edge_free (w : Written ms ts) {t : Nat × Int × Int} (h : t ∈ ts) : 59 ∉ edgeL t ∧ (edgeL t).length ≤ 7 ∧ ∀ p ∈ [[t.1], numL t.2.1, numL t.2.2], 32 ∉ p := by
  obtain ⟨⟨a0, a1⟩, b0, b1⟩ := w.end_ h
  have n := num_is a0 a1
  have k := num_is b0 b1
  have al := alpha_plain (w.name t h)
  refine ⟨fun z => ?_, ?_, fun p hp => ?_⟩
  · rcases in_join z with z | ⟨p, hp, z⟩
    · exact absurd z (by decide)
    · simp only [List.mem_cons, List.not_mem_nil, or_false] at hp
      rcases hp with rfl | rfl | rfl
      · exact al.2 (List.mem_singleton.mp z).symm
      · exact n.semi z
      · exact k.semi z
  · rw [edge_is]
    simp only [List.length_append, List.length_cons, List.length_nil]
    have := n.few
    have := k.few
    omega
  · simp only [List.mem_cons, List.not_mem_nil, or_false] at hp
    rcases hp with rfl | rfl | rfl
    · exact fun z => al.1 (List.mem_singleton.mp z).symm
    · exact n.blank
    · exact k.blank
theorem kind_semi : strKind (txt [59, 32]) = 1 := by decide +kernel
theorem kind_blank : strKind (txt [32]) = 1 := by decide +kernel
theorem rows_of (w : Written ms ts) : Txt.split (txt (textL ms ts)) (txt [59, 32]) = (joinP [32] (ms.map nodeL) :: ts.map edgeL).map txt := by
  refine split_join kind_semi (by decide) (by simp) fun p hp => ?_
  rcases List.mem_cons.mp hp with rfl | hp
  · intro z
    rcases in_join z with z | ⟨q, hq, z⟩
    · exact absurd z (by decide)
    · obtain ⟨m, hm, rfl⟩ := List.mem_map.mp hq
      exact (node_free w hm).2.1 z
  · obtain ⟨t, ht, rfl⟩ := List.mem_map.mp hp
    exact (edge_free w ht).1
theorem words_nodes (w : Written ms ts) (ne : ms ≠ []) : Txt.split (txt (joinP [32] (ms.map nodeL))) (txt [32]) = (ms.map nodeL).map txt := by
  refine split_join kind_blank (by decide) (by simpa using ne) fun p hp => ?_
  obtain ⟨m, hm, rfl⟩ := List.mem_map.mp hp
  exact (node_free w hm).1
theorem words_edge (w : Written ms ts) {t : Nat × Int × Int} (h : t ∈ ts) : Txt.split (txt (edgeL t)) (txt [32]) = [txt [t.1], txt (numL t.2.1), txt (numL t.2.2)] :=
  split_join kind_blank (by decide) (by simp) (edge_free w h).2.2
theorem digits_of (w : Written ms ts) {m : Int × Int} (h : m ∈ ms) : Txt.removesuffix (txt (nodeL m)) (txt [42]) = txt (numL m.1) := by
  have n := num_is (w.node m h).1 (w.node m h).2
  have l1 : (txt [42]).length = 1 := rfl
  rw [removesuffix_eq, l1, txt_len, subAt_eq, txt_cps, txt_cps, l1]
  unfold nodeL
  by_cases c : m.2 = 1
  · rw [if_pos c]
    have len : (numL m.1 ++ [42]).length = (numL m.1).length + 1 := by rw [List.length_append]; rfl
    have yes : (decide (0 + 1 ≤ (numL m.1 ++ [42]).length) && (List.take 1 (List.drop ((numL m.1 ++ [42]).length - 1) (numL m.1 ++ [42])) == [42])) = true := by
      rw [len, Nat.add_sub_cancel, List.drop_append_of_le_length (Nat.le_refl _), List.drop_length, List.nil_append, decide_eq_true (by omega)]
      rfl
    rw [if_pos yes, len, List.drop_zero, Nat.add_sub_cancel, Nat.sub_zero, List.take_append_of_le_length (Nat.le_refl _), List.take_length]
    rfl
  · rw [if_neg c, List.append_nil]
    refine if_neg fun z => ?_
    rw [Bool.and_eq_true, beq_iff_eq] at z
    have m42 : (42 : Nat) ∈ List.take 1 (List.drop ((numL m.1).length - 1) (numL m.1)) := by rw [z.2]; exact List.mem_singleton.mpr rfl
    exact n.star (List.mem_of_mem_drop (List.mem_of_mem_take m42))
theorem mark_len (w : Written ms ts) {m : Int × Int} (h : m ∈ ms) : ((nodeL m).length : Int) - (numL m.1).length = m.2 := by
  unfold nodeL
  rcases w.mark m h with e | e
  · rw [e, if_neg (by decide), List.append_nil]
    omega
  · rw [e, if_pos rfl, List.length_append]
    show ((_ + 1 : Nat) : Int) - _ = 1
    omega
theorem sum_le (B : Nat) : ∀ ps : List (List Nat), (∀ p ∈ ps, p.length ≤ B) → ((ps.map txt).map (·.length)).sum ≤ ps.length * B
  | [], _ => by simp
  | p :: r, h => by
    have := sum_le B r fun q hq => h q (List.mem_cons_of_mem _ hq)
    have hp := h p List.mem_cons_self
    rw [List.map_cons, List.map_cons, List.sum_cons, List.length_cons, txt_len, Nat.add_mul, Nat.one_mul]
    omega
theorem join_len (s : List Nat) : ∀ ps : List (List Nat), (joinP s ps).length ≤ ((ps.map txt).map (·.length)).sum + ps.length * s.length
  | [] => by simp [joinP]
  | [p] => by
    show p.length ≤ (txt p).length + 0 + 1 * s.length
    rw [txt_len]
    omega
  | p :: q :: r => by
    have ih := join_len s (q :: r)
    show (p ++ s ++ joinP s (q :: r)).length ≤ _
    rw [List.map_cons, List.map_cons, List.sum_cons, List.length_cons, txt_len, Nat.add_mul, Nat.one_mul, List.length_append, List.length_append]
    omega
theorem nodes_sum (w : Written ms ts) : (((ms.map nodeL).map txt).map (·.length)).sum ≤ 36 := by
  have a := sum_le 3 (ms.map nodeL) fun p hp => by
    obtain ⟨m, hm, rfl⟩ := List.mem_map.mp hp
    exact (node_free w hm).2.2
  have b := w.few
  rw [List.length_map] at a
  omega
theorem head_len (w : Written ms ts) : (joinP [32] (ms.map nodeL)).length ≤ 48 := by
  have a := nodes_sum w
  have b := w.few
  have c := join_len [32] (ms.map nodeL)
  rw [List.length_map] at c
  have d : [32].length = 1 := rfl
  rw [d] at c
  omega
theorem edges_sum (w : Written ms ts) : (((ts.map edgeL).map txt).map (·.length)).sum ≤ 168 := by
  have a := sum_le 7 (ts.map edgeL) fun p hp => by
    obtain ⟨m, hm, rfl⟩ := List.mem_map.mp hp
    exact (edge_free w hm).2.1
  have b := w.few
  rw [List.length_map] at a
  omega
theorem text_sum (w : Written ms ts) : (((joinP [32] (ms.map nodeL) :: ts.map edgeL).map txt).map (·.length)).sum + (joinP [32] (ms.map nodeL) :: ts.map edgeL).length * 2 ≤ 300 := by
  have a := edges_sum w
  have b := w.few
  have c := head_len w
  rw [List.map_cons, List.map_cons, List.sum_cons, txt_len, List.length_cons, List.length_map]
  omega
theorem text_len (w : Written ms ts) : (textL ms ts).length ≤ 300 := by
  have a := join_len [59, 32] (joinP [32] (ms.map nodeL) :: ts.map edgeL)
  exact Nat.le_trans a (text_sum w)
theorem text_some (w : Written ms ts) (ne : ms ≠ []) : textL ms ts ≠ [] := by
  match ms, ne with
  | m :: r, _ =>
    have n := (num_is (w.node m List.mem_cons_self).1 (w.node m List.mem_cons_self).2).one
    have h : ∃ x t, nodeL m = x :: t := by
      unfold nodeL
      match h : numL m.1, n with
      | x :: t, _ => exact ⟨x, _, rfl⟩
    obtain ⟨x, t, h⟩ := h
    have h1 : ∃ t, joinP [32] ((m :: r).map nodeL) = x :: t := by
      cases r with
      | nil => exact ⟨t, h⟩
      | cons m2 r =>
        refine ⟨t ++ [32] ++ joinP [32] ((m2 :: r).map nodeL), ?_⟩
        show nodeL m ++ [32] ++ joinP [32] ((m2 :: r).map nodeL) = _
        rw [h]
        rfl
    obtain ⟨u, h1⟩ := h1
    unfold textL
    rw [h1]
    cases ts with
    | nil => intro z; cases z
    | cons a b => intro z; cases z
theorem bare_none (w : Written [] ts) : ts = [] := by
  cases ts with
  | nil => rfl
  | cons t r => exact absurd (w.ends t List.mem_cons_self).1 (by simp)
end
theorem RawOk.written {H : Hp} {ms : List (Int × Int)} {es : List Edg} (ok : RawOk H ms es) : Written ms (es.map tri) := by
  refine ⟨ok.rise, ok.node, ok.mark, ?_, fun t ht => ?_, fun t ht => ?_, fun t ht => ?_⟩
  · rw [List.map_map]
    exact ok.risE
  all_goals
    obtain ⟨e, he, rfl⟩ := List.mem_map.mp ht
  · exact ok.name e he
  · exact ok.less e he
  · exact ok.ends e he
end Tm

/-! a static method without arguments, called on its class -/
namespace Tm
open PySem PySem.Spec PyProof.Rows L2 ClX
/-- C.m is a staticmethod: its record at p, its def at g -/
structure Stat (K : PySem.W.Frag) (C : Addr) (mc : Value) (m : Str) (p g : Addr) : Prop where
  found : PySem.W.findCls K (.ref C) mc m = some (.get (.builtin "staticmethod.__get__") (.ref p) .none (.ref C))
  held : ∃ rest, PySem.W.recIn K p "staticmethod" = some (.ref g :: rest)
  kept : PySem.W.keepIn K (.ref g) = true
def tStat (C : Addr) (sp : Sp) (E : XK) (to : TE) : TE := fun σ H Q => to σ H fun x H1 => x = .ref C ∧ sp [] H1 Q E
theorem pe_stat {X : Cx} {CX : CXT} {k : Nat} {C p g : Addr} {mc : Value} {fd : FuncData} {sp : Sp} {E : XK} {o : Expr} {m : Str} {pos apos : Pos} {to : TE} {pl : Sem Bool}
    (owner : PE X o to) (reads : CRead X.K C mc) (stat : Stat X.K C mc m p g) (fn : FnOk X.prog X.w X.K X.mg X.base CX k g fd [] sp) (room : Room k X.A) (binds : Binds X.K fd [] []) (pass : Passes CX X E)
    (steps : eval (.Call (.Attribute o m apos) [] [] pos) X.env = (do
      let ov ← eval o X.env
      standAt apos.atName
      let (callee, front) ← holding [ov] (getMethod ov m pl)
      callWith pos callee front (backTo pos (starEach [] X.env)) (backToKw pos (keywordEach [] X.env))) := by rfl) : PE X (.Call (.Attribute o m apos) [] [] pos) (tStat C sp E to) where
  run pins s σ H Q inv ask := by
    apply PySem.W.methodCall_KW (pl := pl) _ steps
    apply wpAny_mono (owner.run pins s σ H _ inv ask) _ (fun _ _ raised => raised)
    rintro u s1 ⟨x, H1, inv1, rel, rfl, goal⟩
    cases rel
    obtain ⟨rest, record⟩ := stat.held
    apply PySem.W.method_cls inv1.kIn reads.ga
    apply PySem.W.cls_bind inv1.kIn reads.rd stat.found
    apply wpAny_call
    apply PySem.W.sm_get (s := { s1 with toks := s1.toks + 1 }) inv1.kIn record
    apply PySem.W.handed_on rfl
    have inv2 := inv1.tok (s1.toks + 1)
    exact PySem.W.callWith_K0 inv2.kIn stat.kept (run_fn (us := []) fn room binds .nil pass inv2 .nil goal)
end Tm

namespace T78
open PySem PySem.Spec PyProof.Rows L2 Tm
open ClX
abbrev sEmpty : Stmt := inClass (topS 24) 7
theorem scEmpty : FnScope [] [] (defScope sEmpty) := ⟨rfl, rfl, rfl, by decide +kernel, rfl, by decide +kernel, by decide +kernel⟩
def spEmpty (C : Addr) : Sp := fun vs H Q _ => vs = [] ∧ ∀ H' x, Same H H' → WebAt C H' x [] [] → Q (.ref x) H'
theorem made_same {C x : Addr} {H : Hp} {ms ms' : List (Int × Int)} {es es' : List Edg} (wr : Written ms (es.map tri)) (web : WebAt C H x ms' es') (m : Made ms ms' es es') : ms' = ms ∧ es'.map tri = es.map tri := by
  obtain ⟨dx, a1, a2, a3, _, _, _, _, ok⟩ := web
  constructor
  · exact List.Perm.eq_of_pairwise (le := fun a b : Int × Int => a.1 < b.1) (fun a b _ _ x y => absurd (Int.lt_trans x y) (Int.lt_irrefl _)) (List.pairwise_map.mp ok.rise) (List.pairwise_map.mp wr.rise) m.1
  · have e : (es.map fun e => (e.letter, min e.lo e.hi, max e.lo e.hi)) = es.map tri := List.map_congr_left fun e he => by
      have l : e.lo < e.hi := wr.less _ (List.mem_map.mpr ⟨e, he, rfl⟩)
      rw [Int.min_eq_left (by omega), Int.max_eq_right (by omega)]
      rfl
    have p : (es'.map tri).Perm (es.map tri) := e ▸ m.2
    refine List.Perm.eq_of_pairwise (le := fun a b : Nat × Int × Int => a.1 < b.1) (fun a b _ _ x y => absurd (Nat.lt_trans x y) (Nat.lt_irrefl _)) ?_ (List.pairwise_map.mp wr.risE) p
    exact List.pairwise_map.mpr (List.pairwise_map.mp ok.risE)
theorem written_ok {H : Hp} {ms : List (Int × Int)} {es : List Edg} (wr : Written ms (es.map tri)) (pr : ∀ e ∈ es, H e.pair = some (.tup [.int e.lo, .int e.hi])) : MarksOk ms ∧ EdgesOk H ms es := by
  have few := wr.few
  rw [List.length_map] at few
  refine ⟨⟨wr.rise.imp fun hab e => by rw [e] at hab; exact Int.lt_irrefl _ hab, by omega, wr.node, wr.mark⟩, ?_, by omega, fun e he => wr.name _ (List.mem_map.mpr ⟨e, he, rfl⟩), fun e he => ⟨pr e he, ?_, wr.ends _ (List.mem_map.mpr ⟨e, he, rfl⟩)⟩⟩
  · have r := wr.risE
    rw [List.map_map] at r
    exact r.imp fun hab e => by rw [e] at hab; exact Nat.lt_irrefl _ hab
  · have l : e.lo < e.hi := wr.less _ (List.mem_map.mpr ⟨e, he, rfl⟩)
    omega
theorem nothing_written : Written [] [] := ⟨.nil, fun _ h => (by cases h), fun _ h => (by cases h), .nil, fun _ h => (by cases h), fun _ h => (by cases h), fun _ h => (by cases h)⟩
section
variable {P : Program} {w : World} {K : PySem.W.Frag} {mg : Str → Option Value} {base : Heap}
theorem ok_empty {f fI C : Addr} {mc : Value} {fd fdI : FuncData} (F : Fun K "empty" "Web.empty" sEmpty f fd) (M : Mk K C fI) (GI : FnOk P w K mg base CX0 3 fI fdI ["self", "marks", "edges"] (spWInit C)) (bI : Binds K fdI ["self", "marks", "edges"] [])
    (T : ChkT K mg C mc) : FnOk P w K mg base CX0 5 f fd [] (spEmpty C) := by
  refine F.ok scEmpty (fun vs H Q E h => ?_) (fun cdv A outer s H vs Q E hr h => ?_)
  · obtain ⟨rfl, _⟩ := h
    rfl
  · obtain ⟨rfl, hand⟩ := h
    refine ⟨_, pss_one (ps_ret (pe_make M GI hr (by rfl) T.web bI .nil pass0 (pa_cons pe_dnewK (pa_cons pe_dnewK pa_nil)))), ?_⟩
    intro d1 f1 d2 f2 x dx nx ndx nex
    have s1 : Same H (upd (upd H d1 (.dK [])) d2 (.dK [])) := (same_upd f1).trans (same_upd f2)
    have s2 : Same (upd (upd H d1 (.dK [])) d2 (.dK [])) (upd (upd (upd (upd H d1 (.dK [])) d2 (.dK [])) dx (.own x)) x (.ins C dx [])) := (same_upd ndx).trans (same_upd (by rw [upd_ne nex.symm]; exact nx))
    have ok := written_ok (H := upd (upd (upd (upd H d1 (.dK [])) d2 (.dK [])) dx (.own x)) x (.ins C dx [])) (es := []) nothing_written (fun e he => (by cases he))
    refine ⟨x, dx, d1, d2, [], [], rfl, upd_same, s2 _ _ ((same_upd f2) _ _ upd_same), s2 _ _ upd_same, ok.1, ok.2, fun H' ms' es' kp web made => ⟨rfl, ?_⟩⟩
    obtain ⟨rfl, em⟩ := made_same (es := []) nothing_written web made
    have e0 : es' = [] := List.map_eq_nil_iff.mp em
    rw [e0] at web
    exact hand H' x (fun p o hp => kp p o (fun z => by rw [z] at hp; rw [s1 _ _ hp] at nx; cases nx) (s2 _ _ (s1 _ _ hp))) web
end


end T78

/-! zip while its tuple is out -/
namespace Tm
open PySem PySem.Spec PyProof.Rows L2
section
variable {prog : Program} {w : World} {A : Around} {E : Value → Shared → Prop} {s : Shared} {z TI TO T i1 i2 : Addr} {f : Bool} {oT : Obj} {fp1 fp2 : List Addr} {n1 n2 i : Nat} {P1 P2 : Nat → Value → Prop} {St1 St2 : Nat → Heap → Prop}
set_option maxHeartbeats 2000000 in
theorem held_item {Q : Value → Shared → Prop} (S : ZipSep2 z TI TO i1 i2 fp1 fp2) (D1 : Draws prog w A i1 fp1 n1 P1 St1) (D2 : Draws prog w A i2 fp2 n2 P2 St2)
    (hz : IsZipHeld s.heap z TI TO T f) (hT : s.heap.get? T = some oT) (hTI : IsTupOf2 s.heap TI (.ref i1) (.ref i2)) (st1 : St1 i s.heap) (st2 : St2 i s.heap) (lt1 : i < n1) (lt2 : i < n2)
    (hand : ∀ x y h' tk, P1 i x → P2 i y → IsZipHeld h' z TI TO T true → St1 (i + 1) h' → St2 (i + 1) h' → h'.IsTuple s.heap.objs.size #[x, y] →
      (∀ c o, c ≠ z → c ≠ i1 → c ≠ i2 → s.heap.get? c = some o → h'.get? c = some o) → Q (.ref s.heap.objs.size) { s with heap := h', toks := tk }) :
    wpAny (model prog w) A (Builtin.«zip.__next__» ⟨[.ref z], []⟩) (fun fin s' => ∃ v, fin = .done (.ret v) ∧ Q v s') E s := by
  have free : ∀ {B : Around} {E : Value → Shared → Prop} {R : Bool → Shared → Prop}, (∀ h', IsZipHeld h' z TI TO T true → Heap.SameBut z s.heap h' → R false { s with heap := h' }) → wpAny (model prog w) B (Builtin.SmallTypes.ownedTupleIsFree (.ref z)) R E s := by
    intro B E R q
    exact wpAny_tupleHeld_zip hz hT q
  wp_walk using free
  intro h1 hz1 same1
  rw [if_neg Bool.false_ne_true]
  simp only [List.forIn_toArray, List.forIn_cons, List.forIn_nil]
  have frame1 : St1 i h1 := D1.frame _ _ _ st1 fun b hb o e => same1.extBut b o (fun q => S.zf1 (q ▸ hb)) e
  apply wpAny_bind
  apply wpAny_bind
  apply wpAny_bind
  apply wpAny_holding
  show wpAny _ _ (Builtin.SmallTypes.nextOf (.ref i1) >>= fun x => pure (some x)) _ _ _
  apply wpAny_bind
  apply D1.item i _ _ _ lt1 frame1
  intro x h2 tk2 px st1' same2
  apply wpAny_pure
  apply wpAny_pure
  have frame2 : St2 i h2 := D2.frame _ _ _ st2 fun b hb o e => same2.extBut b o (fun q => S.sep1_2 (q ▸ hb)) (same1.extBut b o (fun q => S.zf2 (q ▸ hb)) e)
  apply wpAny_bind
  apply wpAny_bind
  apply wpAny_holding
  show wpAny _ _ (Builtin.SmallTypes.nextOf (.ref i2) >>= fun x => pure (some x)) _ _ _
  apply wpAny_bind
  apply D2.item i _ _ _ lt2 frame2
  intro y h3 tk3 py st2' same3
  apply wpAny_pure
  apply wpAny_pure
  apply wpAny_pure
  have frame3 : St1 (i + 1) h3 := D1.frame _ _ _ st1' fun b hb o e => same3.extBut b o (fun q => S.sep2_1 (q ▸ hb)) e
  have size : h3.objs.size = s.heap.objs.size := by rw [same3.1, same2.1, same1.1]
  show wpAny _ _ (newTuple [x, y] >>= fun v => ret v) _ _ _
  apply wpAny_bind
  apply wpAny_newTuple _ (by show 2 ≤ sizeLine; decide)
  apply wpAny_pure
  refine ⟨_, rfl, ?_⟩
  show Q (.ref h3.objs.size) _
  rw [size]
  have later : ∀ c o, h3.get? c = some o → (h3.push { cls := .type "tuple", data := .seq #[x, y] }).get? c = some o := fun c o e => Heap.get?_push_of_some _ e
  apply hand x y _ tk3 px py
  · exact later _ _ (same3.extBut _ _ S.zi2 (same2.extBut _ _ S.zi1 hz1))
  · exact D1.frame _ _ _ frame3 fun b _ o e => later b o e
  · exact D2.frame _ _ _ st2' fun b _ o e => later b o e
  · exact ⟨_, size ▸ Heap.get?_push_size h3 rfl, rfl, _, rfl⟩
  · intro c o nz n1 n2 e
    exact later _ _ (same3.extBut _ _ n2 (same2.extBut _ _ n1 (same1.extBut _ _ nz e)))
set_option maxHeartbeats 2000000 in
theorem held_end {Q : Fin → Shared → Prop} (S : ZipSep2 z TI TO i1 i2 fp1 fp2) (D1 : Draws prog w A i1 fp1 n1 P1 St1) (D2 : Draws prog w A i2 fp2 n2 P2 St2)
    (hz : IsZipHeld s.heap z TI TO T f) (hT : s.heap.get? T = some oT) (hTI : IsTupOf2 s.heap TI (.ref i1) (.ref i2)) (st1 : St1 i s.heap) (st2 : St2 i s.heap) (lt1 : i < n1) (e2 : i = n2)
    (hand : ∀ h' tk e, (∀ c o, c ≠ z → c ≠ i1 → c ≠ i2 → s.heap.get? c = some o → h'.get? c = some o) → (∃ o, h'.get? e = some o ∧ o.cls = .type "StopIteration") → E (.ref e) { s with heap := h', toks := tk }) :
    wpAny (model prog w) A (Builtin.«zip.__next__» ⟨[.ref z], []⟩) Q E s := by
  have free : ∀ {B : Around} {E : Value → Shared → Prop} {R : Bool → Shared → Prop}, (∀ h', IsZipHeld h' z TI TO T true → Heap.SameBut z s.heap h' → R false { s with heap := h' }) → wpAny (model prog w) B (Builtin.SmallTypes.ownedTupleIsFree (.ref z)) R E s := by
    intro B E R q
    exact wpAny_tupleHeld_zip hz hT q
  wp_walk using free
  intro h1 hz1 same1
  rw [if_neg Bool.false_ne_true]
  simp only [List.forIn_toArray, List.forIn_cons, List.forIn_nil]
  have frame1 : St1 i h1 := D1.frame _ _ _ st1 fun b hb o e => same1.extBut b o (fun q => S.zf1 (q ▸ hb)) e
  apply wpAny_bind
  apply wpAny_bind
  apply wpAny_bind
  apply wpAny_holding
  show wpAny _ _ (Builtin.SmallTypes.nextOf (.ref i1) >>= fun x => pure (some x)) _ _ _
  apply wpAny_bind
  apply D1.item i _ _ _ lt1 frame1
  intro x h2 tk2 px st1' same2
  apply wpAny_pure
  apply wpAny_pure
  have frame2 : St2 i h2 := D2.frame _ _ _ st2 fun b hb o e => same2.extBut b o (fun q => S.sep1_2 (q ▸ hb)) (same1.extBut b o (fun q => S.zf2 (q ▸ hb)) e)
  subst e2
  apply wpAny_bind
  apply wpAny_bind
  apply wpAny_holding
  show wpAny _ _ (Builtin.SmallTypes.nextOf (.ref i2) >>= fun x => pure (some x)) _ _ _
  apply wpAny_bind
  apply D2.done _ _ _ frame2
  intro h3 e same3 stop
  apply hand h3 tk2 e _ stop
  intro c o nz n1 n2 at_
  exact same3 _ _ n2 (same2.extBut _ _ n1 (same1.extBut _ _ nz at_))
set_option maxHeartbeats 2000000 in
theorem held_end1 {Q : Fin → Shared → Prop} (S : ZipSep2 z TI TO i1 i2 fp1 fp2) (D1 : Draws prog w A i1 fp1 n1 P1 St1)
    (hz : IsZipHeld s.heap z TI TO T f) (hT : s.heap.get? T = some oT) (hTI : IsTupOf2 s.heap TI (.ref i1) (.ref i2)) (st1 : St1 i s.heap) (e1 : i = n1)
    (hand : ∀ h' tk e, (∀ c o, c ≠ z → c ≠ i1 → s.heap.get? c = some o → h'.get? c = some o) → (∃ o, h'.get? e = some o ∧ o.cls = .type "StopIteration") → E (.ref e) { s with heap := h', toks := tk }) :
    wpAny (model prog w) A (Builtin.«zip.__next__» ⟨[.ref z], []⟩) Q E s := by
  have free : ∀ {B : Around} {E : Value → Shared → Prop} {R : Bool → Shared → Prop}, (∀ h', IsZipHeld h' z TI TO T true → Heap.SameBut z s.heap h' → R false { s with heap := h' }) → wpAny (model prog w) B (Builtin.SmallTypes.ownedTupleIsFree (.ref z)) R E s := by
    intro B E R q
    exact wpAny_tupleHeld_zip hz hT q
  wp_walk using free
  intro h1 hz1 same1
  rw [if_neg Bool.false_ne_true]
  simp only [List.forIn_toArray, List.forIn_cons, List.forIn_nil]
  have frame1 : St1 i h1 := D1.frame _ _ _ st1 fun b hb o e => same1.extBut b o (fun q => S.zf1 (q ▸ hb)) e
  subst e1
  apply wpAny_bind
  apply wpAny_bind
  apply wpAny_bind
  apply wpAny_holding
  show wpAny _ _ (Builtin.SmallTypes.nextOf (.ref i1) >>= fun x => pure (some x)) _ _ _
  apply wpAny_bind
  apply D1.done _ _ _ frame1
  intro h2 e same2 stop
  apply hand h2 s.toks e _ stop
  intro c o nz n1 at_
  exact same2 _ _ n1 (same1.extBut _ _ nz at_)
/-- next(z) while the tuple is out -/
theorem next_held {Q : Option Value → Shared → Prop} (S : ZipSep2 z TI TO i1 i2 fp1 fp2) (D1 : Draws prog w A.in1 i1 fp1 n1 P1 St1) (D2 : Draws prog w A.in1 i2 fp2 n2 P2 St2)
    (hz : IsZipHeld s.heap z TI TO T f) (hT : s.heap.get? T = some oT) (hTI : IsTupOf2 s.heap TI (.ref i1) (.ref i2)) (st1 : St1 i s.heap) (st2 : St2 i s.heap) (lt1 : i < n1) (lt2 : i < n2)
    (hand : ∀ x y h' tk, P1 i x → P2 i y → IsZipHeld h' z TI TO T true → St1 (i + 1) h' → St2 (i + 1) h' → h'.IsTuple s.heap.objs.size #[x, y] →
      (∀ c o, c ≠ z → c ≠ i1 → c ≠ i2 → s.heap.get? c = some o → h'.get? c = some o) → Q (some (.ref s.heap.objs.size)) { s with heap := h', toks := tk }) :
    wpAny (model prog w) A (pyNext (.ref z)) Q E s := by
  have kind : s.TypeIs (.ref z) "zip" := ⟨_, hz, rfl⟩
  unfold pyNext
  apply wpAny_bind
  apply wpAny_attempt
  apply wpAny_callSpecial?_slot (name := Str.ofString "__next__") kind F.slot_zip_next
  apply wpAny_call_entry F.slot_zip_next kind F.entry_zip_next _ (F.args_zip_next_1 _)
  apply held_item S D1 D2 hz hT hTI st1 st2 lt1 lt2
  intro x y h' tk px py z' s1' s2' tup kept
  apply wpAny_pure
  exact hand x y h' tk px py z' s1' s2' tup kept
theorem stop_held {Q : Option Value → Shared → Prop} (S : ZipSep2 z TI TO i1 i2 fp1 fp2) (D1 : Draws prog w A.in1 i1 fp1 n1 P1 St1) (D2 : Draws prog w A.in1 i2 fp2 n2 P2 St2)
    (hz : IsZipHeld s.heap z TI TO T f) (hT : s.heap.get? T = some oT) (hTI : IsTupOf2 s.heap TI (.ref i1) (.ref i2)) (st1 : St1 i s.heap) (st2 : St2 i s.heap) (lt1 : i < n1) (e2 : i = n2)
    (hand : ∀ h' tk, (∀ c o, c ≠ z → c ≠ i1 → c ≠ i2 → s.heap.get? c = some o → h'.get? c = some o) → Q none { s with heap := h', toks := tk }) :
    wpAny (model prog w) A (pyNext (.ref z)) Q E s := by
  have kind : s.TypeIs (.ref z) "zip" := ⟨_, hz, rfl⟩
  unfold pyNext
  apply wpAny_bind
  apply wpAny_attempt
  apply wpAny_callSpecial?_slot (name := Str.ofString "__next__") kind F.slot_zip_next
  apply wpAny_call_entry F.slot_zip_next kind F.entry_zip_next _ (F.args_zip_next_1 _)
  apply held_end S D1 D2 hz hT hTI st1 st2 lt1 e2
  rintro h' tk e kept ⟨o, at_, cls⟩
  apply wpAny_bind
  have ended : ({ s with heap := h', toks := tk } : Shared).TypeIs (.ref e) "StopIteration" := ⟨o, at_, cls⟩
  apply wpAny_isInstance (b := true) ended isSubtype_stop
  rw [if_pos rfl]
  exact wpAny_pure (hand h' tk kept)
theorem stop_held1 {Q : Option Value → Shared → Prop} (S : ZipSep2 z TI TO i1 i2 fp1 fp2) (D1 : Draws prog w A.in1 i1 fp1 n1 P1 St1)
    (hz : IsZipHeld s.heap z TI TO T f) (hT : s.heap.get? T = some oT) (hTI : IsTupOf2 s.heap TI (.ref i1) (.ref i2)) (st1 : St1 i s.heap) (e1 : i = n1)
    (hand : ∀ h' tk, (∀ c o, c ≠ z → c ≠ i1 → s.heap.get? c = some o → h'.get? c = some o) → Q none { s with heap := h', toks := tk }) :
    wpAny (model prog w) A (pyNext (.ref z)) Q E s := by
  have kind : s.TypeIs (.ref z) "zip" := ⟨_, hz, rfl⟩
  unfold pyNext
  apply wpAny_bind
  apply wpAny_attempt
  apply wpAny_callSpecial?_slot (name := Str.ofString "__next__") kind F.slot_zip_next
  apply wpAny_call_entry F.slot_zip_next kind F.entry_zip_next _ (F.args_zip_next_1 _)
  apply held_end1 S D1 hz hT hTI st1 e1
  rintro h' tk e kept ⟨o, at_, cls⟩
  apply wpAny_bind
  have ended : ({ s with heap := h', toks := tk } : Shared).TypeIs (.ref e) "StopIteration" := ⟨o, at_, cls⟩
  apply wpAny_isInstance (b := true) ended isSubtype_stop
  rw [if_pos rfl]
  exact wpAny_pure (hand h' tk kept)
/-- how a zip stands while a dict is filled from it -/
def zipStands (z TI TO i1 i2 d : Addr) (St1 St2 : Nat → Heap → Prop) (i : Nat) (h : Heap) : Prop :=
  IsTupOf2 h TI (.ref i1) (.ref i2) ∧ St1 i h ∧ St2 i h ∧ ((IsZip h z TI TO .none ∧ ∃ a b, IsTupOf2 h TO a b) ∨ ∃ T f oT, IsZipHeld h z TI TO T f ∧ h.get? T = some oT ∧ T ≠ d ∧ T ≠ z ∧ T ≠ i1 ∧ T ≠ i2)
theorem zip_source {d : Addr} (S : ZipSep2 z TI TO i1 i2 fp1 fp2) (D1 : Draws prog w A.in1 i1 fp1 n1 P1 St1) (D2 : Draws prog w A.in1 i2 fp2 n2 P2 St2) (shorter : n2 ≤ n1) (off : d ∉ z :: TI :: TO :: (fp1 ++ fp2)) :
    PairSrc prog w A z d [z, TO, i1, i2] n2 (fun i k v => P1 i k ∧ P2 i v) (zipStands z TI TO i1 i2 d St1 St2) where
  off := by
    simp only [List.mem_cons, List.mem_append, not_or] at off
    obtain ⟨o1, o2, o3, o4, o5⟩ := off
    simp only [List.mem_cons, List.not_mem_nil, or_false, not_or]
    exact ⟨o1, o3, fun e => o4 (e ▸ S.mem1), fun e => o5 (e ▸ S.mem2)⟩
  frame := by
    simp only [List.mem_cons, List.mem_append, not_or] at off
    obtain ⟨o1, o2, o3, o4, o5⟩ := off
    rintro i h h' ⟨ti, s1, s2, out⟩ same
    refine ⟨same _ _ (fun e => o2 e.symm) ti, D1.frame _ _ _ s1 fun b hb o e => same b o (fun q => o4 (q ▸ hb)) e, D2.frame _ _ _ s2 fun b hb o e => same b o (fun q => o5 (q ▸ hb)) e, ?_⟩
    rcases out with ⟨hz, a, b, to⟩ | ⟨T, f, oT, hz, ht, nd, rest⟩
    · exact .inl ⟨same _ _ (fun e => o1 e.symm) hz, a, b, same _ _ (fun e => o3 e.symm) to⟩
    · exact .inr ⟨T, f, oT, same _ _ (fun e => o1 e.symm) hz, same _ _ nd ht, nd, rest⟩
  item := by
    rintro i s Q E lt ⟨ti, s1, s2, out⟩ low hand
    have fresh : ∀ {b : Addr}, b < s.heap.objs.size → s.heap.objs.size ≠ b := fun l => Nat.ne_of_gt l
    obtain ⟨q1, l1⟩ := D1.live _ _ s1
    obtain ⟨q2, l2⟩ := D2.live _ _ s2
    have m1 := Heap.lt_size l1
    have m2 := Heap.lt_size l2
    rcases out with ⟨hz, a, b, to⟩ | ⟨T, f, oT, hz, ht, nd, nz, e1, e2⟩
    · have mz := Heap.lt_size hz
      apply wpAny_pyNext_zipD2_item S D1 D2 hz ti to s1 s2 (Nat.lt_of_lt_of_le lt shorter) lt
      intro x y h' tk px py hz' to' s1' s2' new size kept
      apply hand _ x y h' tk ⟨px, py⟩ (.inl ⟨_, new, rfl, _, rfl⟩)
      · refine ⟨kept _ _ S.TIz S.TITO S.TIi1 S.TIi2 ti, s1', s2', .inr ⟨_, false, _, hz', new, fresh low, fresh mz, fresh m1, fresh m2⟩⟩
      · intro c o nw at_
        simp only [List.mem_cons, List.not_mem_nil, or_false, not_or] at nw
        exact kept c o nw.1 nw.2.1 nw.2.2.1 nw.2.2.2 at_
    · have mz := Heap.lt_size hz
      apply next_held S D1 D2 hz ht ti s1 s2 (Nat.lt_of_lt_of_le lt shorter) lt
      intro x y h' tk px py hz' s1' s2' new kept
      apply hand _ x y h' tk ⟨px, py⟩ (.inl new)
      · refine ⟨kept _ _ S.TIz S.TIi1 S.TIi2 ti, s1', s2', .inr ⟨T, true, oT, hz', kept _ _ nz e1 e2 ht, nd, nz, e1, e2⟩⟩
      · intro c o nw at_
        simp only [List.mem_cons, List.not_mem_nil, or_false, not_or] at nw
        exact kept c o nw.1 nw.2.2.1 nw.2.2.2 at_
  done := by
    rintro s Q E ⟨ti, s1, s2, out⟩ hand
    rcases out with ⟨hz, a, b, to⟩ | ⟨T, f, oT, hz, ht, nd, nz, e1, e2⟩
    · apply wpAny_pyNext_zipD2_end S D1 D2 hz ti to s1 s2 shorter (Nat.le_refl _) (.inr rfl)
      intro h' tk kept
      apply hand h' tk
      intro c o nw at_
      simp only [List.mem_cons, List.not_mem_nil, or_false, not_or] at nw
      exact kept c o nw.1 nw.2.1 nw.2.2.1 nw.2.2.2 at_
    · rcases Nat.lt_or_ge n2 n1 with less | equal
      · apply stop_held S D1 D2 hz ht ti s1 s2 less rfl
        intro h' tk kept
        apply hand h' tk
        intro c o nw at_
        simp only [List.mem_cons, List.not_mem_nil, or_false, not_or] at nw
        exact kept c o nw.1 nw.2.2.1 nw.2.2.2 at_
      · apply stop_held1 S D1 hz ht ti s1 (Nat.le_antisymm shorter equal)
        intro h' tk kept
        apply hand h' tk
        intro c o nw at_
        simp only [List.mem_cons, List.not_mem_nil, or_false, not_or] at nw
        exact kept c o nw.1 nw.2.2.1 at_
/-- zip of what draws, the second one shorter, as the argument of dict -/
theorem zip_pairs (S : ZipSep2 z TI TO i1 i2 fp1 fp2) (D1 : ∀ A : Around, A.handled = none → Draws prog w A i1 fp1 n1 P1 St1) (D2 : ∀ A : Around, A.handled = none → Draws prog w A i2 fp2 n2 P2 St2) (shorter : n2 ≤ n1)
    (live1 : ∀ h, St1 0 h → ∀ b ∈ fp1, ∃ o, h.get? b = some o) (live2 : ∀ h, St2 0 h → ∀ b ∈ fp2, ∃ o, h.get? b = some o) (calm : Around) (quiet : calm.handled = none) :
    PairArg prog w "zip" z (z :: TI :: TO :: (fp1 ++ fp2)) [z, TO, i1, i2] n2 (fun i k v => P1 i k ∧ P2 i v)
      (fun h => IsZip h z TI TO .none ∧ IsTupOf2 h TI (.ref i1) (.ref i2) ∧ (∃ a b, IsTupOf2 h TO a b) ∧ St1 0 h ∧ St2 0 h) where
  type := fun s ok => ⟨_, ok.1, rfl⟩
  notDict := by decide
  keep := by
    rintro h h' ⟨hz, ti, ⟨a, b, to⟩, s1, s2⟩ same
    exact ⟨same _ _ hz, same _ _ ti, ⟨a, b, same _ _ to⟩, (D1 calm quiet).frame _ _ _ s1 fun b _ o e => same b o e, (D2 calm quiet).frame _ _ _ s2 fun b _ o e => same b o e⟩
  there := by
    rintro h ⟨hz, ti, ⟨a, b, to⟩, s1, s2⟩ c hc
    rcases List.mem_cons.mp hc with rfl | hc
    · exact ⟨_, hz⟩
    rcases List.mem_cons.mp hc with rfl | hc
    · exact ⟨_, ti⟩
    rcases List.mem_cons.mp hc with rfl | hc
    · exact ⟨_, to⟩
    rcases List.mem_append.mp hc with hc | hc
    · exact live1 h s1 c hc
    · exact live2 h s2 c hc
  sub := by
    intro c hc
    simp only [List.mem_cons, List.not_mem_nil, or_false] at hc
    rcases hc with rfl | rfl | rfl | rfl
    · simp
    · simp
    · exact List.mem_cons_of_mem _ (List.mem_cons_of_mem _ (List.mem_cons_of_mem _ (List.mem_append_left _ S.mem1)))
    · exact List.mem_cons_of_mem _ (List.mem_cons_of_mem _ (List.mem_cons_of_mem _ (List.mem_append_right _ S.mem2)))
  noKeys := by
    rintro B s Q E hB ⟨hz, _⟩ hand
    exact getAttrOr_miss_zip hz rfl rfl rfl zip_no_keys (by decide +kernel) hB hand
  iter := by
    rintro B s d Q E hB ⟨hz, ti, to, s1, s2⟩ low off hand
    apply wpAny_pyIter_zip hz
    exact hand z [z, TO, i1, i2] _ s.heap s.toks (zip_source S (D1 _ hB) (D2 _ hB) shorter off) ⟨ti, s1, s2, .inl ⟨hz, to⟩⟩ (fun _ _ e => e) fun b hb => .inl hb
end
end Tm

/-! dict(zip(text, list)) -/
namespace Tm
open PySem PySem.Spec PyProof.Rows L2
/-- each value under the sign of its place -/
def lettered (cs : List Nat) (ys : List V) : List (Key × V) := (cs.zip ys).map fun q => (Sum.inr (⟨#[q.1]⟩ : Str), q.2)
def letteredU (cs : List Nat) (us : List Value) : List (Key × Value) := (cs.zip us).map fun q => (Sum.inr (⟨#[q.1]⟩ : Str), q.2)
def tDictZip (K : PySem.W.Frag) (ta : TA) : TE := fun σ H Q => ta σ H fun vs H1 => ∃ (cs : List Nat) (l : Addr) (ys : List V), vs = [.str (txt cs), .ref l] ∧ SqL K H1 l ys ∧ ys.length ≤ cs.length ∧ cs.length ≤ 1000 ∧ cs.Nodup ∧ ∀ p, H1 p = none → Q (.ref p) (upd H1 p (.dK (lettered cs ys)))
theorem lettered_rel {ys : List V} {us : List Value} (vals : Vals ys us) : ∀ cs : List Nat, KV (lettered cs ys) (letteredU cs us) := by
  induction vals with
  | nil => intro cs; cases cs <;> exact .nil
  | cons head tail ih =>
    intro cs
    cases cs with
    | nil => exact .nil
    | cons c cs => exact .cons ⟨rfl, head⟩ (ih cs)
theorem lettered_nodup (us : List Value) : ∀ {cs : List Nat}, cs.Nodup → ((letteredU cs us).map (·.1)).Nodup := by
  induction us with
  | nil => intro cs _; cases cs <;> exact List.nodup_nil
  | cons u us ih =>
    intro cs nd
    cases cs with
    | nil => exact List.nodup_nil
    | cons c cs =>
      obtain ⟨out, nd'⟩ := List.nodup_cons.mp nd
      refine List.nodup_cons.mpr ⟨?_, ih nd'⟩
      intro m
      obtain ⟨q, hq, e⟩ := List.mem_map.mp m
      obtain ⟨r, hr, rfl⟩ := List.mem_map.mp hq
      have same : r.1 = c := by
        have e1 : (Sum.inr (⟨#[r.1]⟩ : Str) : Key) = Sum.inr ⟨#[c]⟩ := e
        injection e1 with e2
        injection e2 with e3
        injection e3 with e4
        injection e4
      exact out (same ▸ (List.of_mem_zip (show (r.1, r.2) ∈ cs.zip us from hr)).1)
theorem lettered_have {prog : Program} {w : World} (cs : List Nat) (us : List Value) (short : us.length ≤ cs.length) :
    PairsHave (mixKind prog w) us.toArray.size (fun i k v => (∃ c u, (txt cs).cps[i]? = some c ∧ k = .str ⟨#[c]⟩ u) ∧ us.toArray[i]? = some v) (letteredU cs us) := by
  constructor
  · simp only [letteredU, List.length_map, List.length_zip, List.size_toArray]; omega
  · rintro i key v ⟨⟨c, u, hc, rfl⟩, hv⟩
    have e1 : cs[i]? = some c := by
      have e : (txt cs).cps[i]? = cs[i]? := List.getElem?_toArray ..
      rw [← e]; exact hc
    have e2 : us[i]? = some v := by
      have e : us.toArray[i]? = us[i]? := List.getElem?_toArray ..
      rw [← e]; exact hv
    refine ⟨Sum.inr ⟨#[c]⟩, ?_, ?_⟩
    · have both : (cs.zip us)[i]? = some (c, v) := List.getElem?_zip_eq_some.mpr ⟨e1, e2⟩
      simp only [letteredU, List.getElem?_map, both, Option.map_some]
    · show keyIs (Sum.inr ⟨#[c]⟩) (.str ⟨#[c]⟩ u) = true
      simp [keyIs, Value.isStrOf]
theorem pe_dictzip {X : Cx} {e e2 : Expr} {ta : TA} {p q pos pos2 : Pos} (calm : X.calm = true) (gz : Gl X "zip") (fz : X.mg "zip" = none) (gd : Gl X "dict") (fd : X.mg "dict" = none) (args : PA X [e, e2] ta)
    (first : starEach [e, e2] X.env = (false, eval e X.env) :: starEach [e2] X.env := by rfl) (plain : (backTo pos2 (starEach [e2] X.env)).any (·.1) = false := by rfl)
    (one : starEach [.Call (.Name "zip" q) [e, e2] [] pos2] X.env = (false, eval (.Call (.Name "zip" q) [e, e2] [] pos2) X.env) :: starEach [] X.env := by rfl) :
    PE X (.Call (.Name "dict" p) [.Call (.Name "zip" q) [e, e2] [] pos2] [] pos) (tDictZip X.K ta) where
  run pins s σ H Q inv ask := by
    apply wpAny_Call_Name_kw
    apply ld_blt inv gd fd boot_dict
    apply PyProof.Rows.callWith_type1 _ one rfl
    rw [one]
    show wpAny _ _ (spliced ((false, eval _ X.env) :: backTo pos (starEach [] X.env))) _ _ s
    apply Calls.spliced_cons
    apply wpAny_Call_Name_kw
    apply ld_blt inv gz fz PyProof.Rows.boot_zip
    apply PyProof.Rows.callWith_type1 _ first plain
    apply wpAny_mono (args.run pos2 pins s σ H _ inv ask) _ (fun _ _ raised => raised)
    rintro held s1 ⟨given, H1, inv1, rel, cs, l, ys, rfl, sq, short, few, nodup, hand⟩
    match held, rel with
    | [_, _], .cons ⟨t, rfl⟩ (.cons rfl .nil) =>
      obtain ⟨us, vals, pl, _⟩ := inv1.list sq
      have isl := pl.isList
      obtain ⟨ob, there, _⟩ := id isl
      have low := Heap.lt_size there
      apply zip_begins2 (begins_text _ _) (begins_list l us.toArray) trivial isl
      intro heap hz hi ho g1 g2 size kept
      apply Calls.spliced_nil
      have inv2 : Inv X pins σ H1 { s1 with heap := heap } := inv1.kept (t' := s1.toks) kept
      have num : us.length = ys.length := vals.length.symm
      have ne : l ≠ s1.heap.objs.size + 1 := Nat.ne_of_lt (Nat.lt_succ_of_lt low)
      have S := zip_sep2 (N := s1.heap.objs.size) (fp1 := []) (fp2 := [l]) (fun _ h => by cases h) (fun b h => by rw [List.mem_singleton.mp h]; exact low)
      have quiet : X.A.handled = none := inv1.ok.hd calm
      have P := zip_pairs (prog := X.prog) (w := X.w) S (fun A' h => Draws.text (A := A') h s1.heap.objs.size (txt cs) t) (fun A' h => Draws.list (A := A') h (s1.heap.objs.size + 1) l ne us.toArray)
        (by rw [List.size_toArray]; show us.length ≤ cs.toArray.size; rw [List.size_toArray, num]; exact short)
        (fun h st b hb => by rw [List.mem_singleton.mp hb]; obtain ⟨o, at_, _⟩ := st; exact ⟨o, at_⟩)
        (fun h st b hb => by
          rcases List.mem_cons.mp hb with rfl | hb
          · obtain ⟨⟨o, at_, _⟩, _⟩ := st; exact ⟨o, at_⟩
          · rw [List.mem_singleton.mp hb]; obtain ⟨_, ⟨o, at_, _⟩⟩ := st; exact ⟨o, at_⟩) X.A quiet
      apply call_dict_pairs (knd := mixKind X.prog X.w) (kvs := letteredU cs us) P quiet ⟨hz, hi, ⟨_, _, ho⟩, ⟨_, g1, rfl, rfl⟩, ⟨_, g2, rfl, rfl⟩, isl.at fun o e => kept _ _ e⟩ (lettered_have cs us (by omega))
        (by rw [List.size_toArray]; unfold sizeLine; omega)
      intro h' tk made kept'
      rw [merged_nil_of_nodup _ (lettered_nodup us nodup)] at made
      have cells : ∀ b ∈ [s1.heap.objs.size + 4, s1.heap.objs.size + 3, s1.heap.objs.size, s1.heap.objs.size + 1], FpOk X pins H1 b := by
        intro b hb
        have above : s1.heap.objs.size ≤ b := by
          simp only [List.mem_cons, List.not_mem_nil, or_false] at hb
          have up : ∀ n : Nat, (s1.heap.objs.size : Nat) ≤ s1.heap.objs.size + n := fun n => Nat.le_add_right _ _
          rcases hb with rfl | rfl | rfl | rfl
          · exact up 4
          · exact up 3
          · exact up 0
          · exact up 1
        exact inv1.fpOk above (inv1.hok.fresh above)
      have new : ObjOk X.prog X.w (upd H1 heap.objs.size (.dK (lettered cs ys))) h' heap.objs.size (.dK (lettered cs ys)) := by
        refine ⟨?_, ?_, _, lettered_rel vals cs, made⟩
        · simp only [lettered, List.length_map, List.length_zip]; unfold sizeLine; omega
        · exact beq_eq_false_iff_ne.mpr (Nat.ne_of_gt inv2.big)
      exact ⟨.ref heap.objs.size, _, inv2.turnedNew kept' cells (Nat.le_refl _) new, rfl, hand _ (inv2.hok.fresh (Nat.le_refl _))⟩
end Tm

/-! webs that the class makes: complete and bipartite -/
namespace Tm
open PySem PySem.Spec PyProof.Rows L2
def zeros (n : Nat) : List (Int × Int) := (List.range n).map fun i => ((i : Nat), (0 : Int))
def spMUT (K : PySem.W.Frag) : Sp := fun vs H Q _ => ∃ (n : Nat) (od : Addr), vs = [.int n, .ref od] ∧ n ≤ 12 ∧ SqT K H od [] ∧ ∀ H' p, Same H H' → H p = none → H' p = some (.dK (marksK (zeros n))) → Q (.ref p) H'
def edgesOf (cs : List Nat) (pz : List (Addr × Int × Int)) : List Edg := (cs.zip pz).map fun q => ⟨q.1, q.2.1, q.2.2.1, q.2.2.2⟩
theorem lettered_edges (pz : List (Addr × Int × Int)) : ∀ cs : List Nat, lettered cs (pz.map fun a => V.ref a.1) = endsK (edgesOf cs pz) := by
  induction pz with
  | nil => intro cs; cases cs <;> rfl
  | cons a pz ih =>
    intro cs
    cases cs with
    | nil => rfl
    | cons c cs =>
      have := ih cs
      simp only [lettered, edgesOf, endsK, List.map_cons, List.zip_cons_cons] at this ⊢
      rw [this]
      rfl
def spNamed : Sp := fun vs H Q _ => ∃ (l : Addr) (pz : List (Addr × Int × Int)), vs = [.ref l] ∧ PairsZ H l pz ∧ pz.length < 24 ∧ ∀ p, H p = none → Q (.ref p) (upd H p (.dK (endsK (edgesOf alpha pz))))
theorem zeros_take {n i : Nat} (h : i < n) : marksK ((zeros n).take (i + 1)) = putK (marksK ((zeros n).take i)) (Sum.inl ((i : Nat) : Int)) (.int 0) := by
  have len : i < (zeros n).length := by unfold zeros; rw [List.length_map, List.length_range]; exact h
  have nd : ((zeros n).map (·.1)).Nodup := by
    unfold zeros
    rw [List.map_map]
    refine List.Pairwise.map _ ?_ (List.nodup_range (n := n))
    intro a b ne e
    exact ne (Int.ofNat.inj e)
  have e := marksK_take len nd
  rw [← e]
  simp [zeros]
end Tm

/-! what complete and bipartite build -/
namespace Tm
open PySem PySem.Spec PyProof.Rows L2
def rowP (lo : Nat → Nat) (hi i : Nat) : List (Int × Int) := (List.range (hi - lo i)).map fun j => (((i : Nat) : Int), ((lo i + j : Nat) : Int))
def rowsP (lo : Nat → Nat) (hi n : Nat) : List (Int × Int) := (List.range n).flatMap (rowP lo hi)
theorem rowP_length (lo : Nat → Nat) (hi i : Nat) : (rowP lo hi i).length = hi - lo i := by unfold rowP; rw [List.length_map, List.length_range]
theorem rowP_take {lo : Nat → Nat} {hi i j : Nat} (h : j < hi - lo i) : (rowP lo hi i).take (j + 1) = (rowP lo hi i).take j ++ [(((i : Nat) : Int), ((lo i + j : Nat) : Int))] := by
  rw [List.take_succ_eq_append_getElem (by rw [rowP_length]; exact h)]
  simp [rowP]
theorem rowsP_succ (lo : Nat → Nat) (hi i : Nat) : rowsP lo hi (i + 1) = rowsP lo hi i ++ rowP lo hi i := by
  unfold rowsP
  rw [List.range_succ, List.flatMap_append]
  simp
theorem pairsZ_add {L : Hp} {D T : Addr} {pz : List (Addr × Int × Int)} {a b : Int} (h : PairsZ L D pz) (nT : L T = none) :
    PairsZ (upd (upd L T (.tup [.int a, .int b])) D (.lst ((pz.map fun a => V.ref a.1) ++ [.ref T]))) D (pz ++ [(T, a, b)]) := by
  have hD : (upd L T (.tup [.int a, .int b])) D = some (.lst (pz.map fun a => V.ref a.1)) := by rw [upd_ne (ne_of_none h.1 nT)]; exact h.1
  have e : (pz.map fun a => V.ref a.1) ++ [.ref T] = (pz ++ [(T, a, b)]).map fun a => V.ref a.1 := by rw [List.map_append]; rfl
  rw [e]
  refine PairsZ.put hD ?_
  intro q hq
  rcases List.mem_append.mp hq with hq | hq
  · rw [upd_ne (ne_of_none (h.2 q hq) nT)]
    exact h.2 q hq
  · rw [List.mem_singleton.mp hq]
    exact upd_same
def triW (prs : List (Int × Int)) : List Tri := (alpha.zip prs).map fun q => (q.1, min q.2.1 q.2.2, max q.2.1 q.2.2)
def spBuilt (K : PySem.W.Frag) (C : Addr) (args : List V) (prs : List (Int × Int)) : Sp := fun vs H Q _ => ∃ od : Addr, vs = V.ref C :: (args ++ [.ref od]) ∧ SqT K H od [] ∧ ∀ H' x ms es, Same H H' → H x = none → WebAt C H' x ms es → (es.map tri).Perm (triW prs) → Q (.ref x) H'
theorem edgesOf_letters (pz : List (Addr × Int × Int)) : ∀ cs : List Nat, (edgesOf cs pz).map (·.letter) = cs.take pz.length := by
  induction pz with
  | nil => intro cs; cases cs <;> rfl
  | cons a pz ih =>
    intro cs
    cases cs with
    | nil => rfl
    | cons c cs =>
      have := ih cs
      simp only [edgesOf, List.map_cons, List.zip_cons_cons, List.length_cons, List.take_succ_cons] at this ⊢
      rw [this]
theorem edges_built {H : Hp} {l : Addr} {pz : List (Addr × Int × Int)} {n : Nat} (h : PairsZ H l pz) (few : pz.length < 24) (good : ∀ z ∈ pz.map (·.2), z.1 ≠ z.2 ∧ z.1 ∈ (zeros n).map (·.1) ∧ z.2 ∈ (zeros n).map (·.1)) :
    EdgesOk H (zeros n) (edgesOf alpha pz) := by
  have each : ∀ e ∈ edgesOf alpha pz, e.letter ∈ alpha ∧ (e.pair, e.lo, e.hi) ∈ pz := by
    intro e he
    obtain ⟨q, hq, rfl⟩ := List.mem_map.mp he
    exact List.of_mem_zip (show (q.1, q.2) ∈ alpha.zip pz from hq)
  refine ⟨?_, ?_, fun e he => (each e he).1, ?_⟩
  · rw [edgesOf_letters]
    exact alpha_nodup.sublist (List.take_sublist _ _)
  · unfold edgesOf
    rw [List.length_map, List.length_zip]
    omega
  · intro e he
    have m := (each e he).2
    exact ⟨h.2 _ m, good (e.lo, e.hi) (List.mem_map.mpr ⟨_, m, rfl⟩)⟩
theorem tri_built (pz : List (Addr × Int × Int)) : ((edgesOf alpha pz).map fun e => (e.letter, min e.lo e.hi, max e.lo e.hi)) = triW (pz.map (·.2)) := by
  have zips : ∀ cs : List Nat, cs.zip (pz.map (·.2)) = (cs.zip pz).map fun q => (q.1, q.2.2) := by
    intro cs
    rw [List.zip_map_right]
    rfl
  unfold edgesOf triW
  rw [zips, List.map_map, List.map_map]
  rfl
/-- cls(..): the class stands in a slot -/
def tMakeV (i : Nat) (C : Addr) (sp : Sp) (dvs : List V) (E : XK) (t : TA) : TE := fun σ H Q => σ[i]? = some (some (.ref C)) ∧ tMake C sp dvs E t σ H Q
theorem pe_makeV {X : Cx} {CX : CXT} {k i : Nat} {C f : Addr} {fd : FuncData} {ps : List Str} {sp : Sp} {dvs : List V} {ds : List Value} {E : XK} {x : Str} {p pos : Pos} {e : Expr} {es : List Expr} {t : TA}
    (slot : X.N[i]? = some x) (seen : Vis X.env.scope x) (M : Mk X.K C f) (init : FnOk X.prog X.w X.K X.mg X.base CX k f fd ps sp) (room : Room (k + 1) X.A) (binds : Binds X.K fd ps ds) (dfl : Vals dvs ds) (pass : Passes CX X E) (args : PA X (e :: es) t)
    (nd : (x == ("__debug__" : Str)) = false := by decide) (nc : (x == ("__classdict__" : Str)) = false := by decide)
    (first : starEach (e :: es) X.env = (false, eval e X.env) :: starEach es X.env := by rfl) (plain : (backTo pos (starEach es X.env)).any (·.1) = false := by rfl) : PE X (.Call (.Name x p) (e :: es) [] pos) (tMakeV i C sp dvs E t) where
  run pins s σ H Q inv ask := by
    have read := (pe_var (pos := p) slot seen nd nc).run pins s σ H (fun v H1 => v = .ref C ∧ H1 = H) inv ⟨_, ask.1, rfl, rfl⟩
    apply wpAny_Call_Name_kw
    apply wpAny_mono read _ (fun _ _ raised => raised)
    rintro u s1 ⟨v, H1, inv1, rel, rfl, rfl⟩
    cases rel
    apply PySem.W.callWith_K (h₀ := X.base) inv.ok.mod.kin M.kp _ first plain
    apply wpAny_mono (args.run pos pins s1 σ _ _ inv1 ask.2) _ (fun _ _ raised => raised)
    rintro us s2 ⟨vs, H2, inv2, rels, made⟩
    exact ⟨inv2.kIn, run_make M init room binds dfl pass inv2 rels made⟩
end Tm

namespace T78
open PySem PySem.Spec PyProof.Rows L2 Tm
abbrev sMut : Stmt := topS 22
theorem scMut : FnScope ["count", "odd", "node"] ["count", "odd"] (defScope sMut) := ⟨rfl, rfl, rfl, by decide +kernel, rfl, by decide +kernel, by decide +kernel⟩
abbrev sNamed : Stmt := topS 23
theorem scNamed : FnScope ["pairs"] ["pairs"] (defScope sNamed) := ⟨rfl, rfl, rfl, by decide +kernel, rfl, by decide +kernel, by decide +kernel⟩
section
variable {P : Program} {w : World} {K : PySem.W.Frag} {mg : Str → Option Value} {base : Heap}
theorem ok_mut {f : Addr} {fd : FuncData} (F : Fun K "marks_up_to" "marks_up_to" sMut f fd) (mr : mg "range" = none) : FnOk P w K mg base CX0 1 f fd ["count", "odd"] (spMUT K) := by
  refine F.ok scMut (fun vs H Q E h => ?_) (fun cdv A outer s H vs Q E hr h => ?_)
  · obtain ⟨n, od, rfl, _⟩ := h
    rfl
  · obtain ⟨n, od, rfl, few, sq, q⟩ := h
    refine ⟨_, pss_cons (ps_for PassesOwn.never rfl (pi_tup (pv 1)) (pg_name (i := 2) scMut.nd rfl (.inl rfl)) pss_never)
      (pss_one (ps_ret (pe_dc (own := [("node", 2)]) (g := gName 2) (tt := tYes) rfl scMut.nd (pi_range1 (by rfl) mr (pa_cons (pv 0) pa_nil)) (blkOk_by (own := [("node", 2)]) (N := ["count", "odd", "node"]) (sc := defScope sMut) (by decide +kernel)) (fun _ _ _ _ _ => pg_name (i := 2) scMut.nd rfl (Or.inl rfl)) (fun _ _ _ _ _ => pts_nil)
        (fun _ _ _ _ _ => pv 2) (fun _ _ _ _ _ => pe_ifExp (pt_cmpR (show OpR _ _ (rIn K false) from op_in_seq) (pv 2) (pv 1) (by rfl)) pe_int pe_int)))), ?_⟩
    refine ⟨_, rfl, od, rfl, ⟨_, sq⟩, for_tup (K := K) (a := od) (xs := []) (fun i σ H' => σ = [some (.int n), some (.ref od), none] ∧ H' = H) ⟨rfl, rfl⟩ (fun i σ H' _ h => by rw [h.2]; exact sq) (fun i x σ H' hx => by cases hx) ?_⟩
    rintro σ H' ⟨rfl, rfl⟩
    refine ⟨_, rfl, n, rfl, by omega, by omega, ?_⟩
    refine dc_walk (walk_range (lo := 0) (n := n)) (fun D i J => Same H' J ∧ J D = some (.dK (marksK ((zeros n).take i)))) (fun D fresh => ⟨same_upd fresh, upd_same⟩) (fun _ _ _ _ _ => trivial) ?_ ?_
    · rintro D i v J J' fresh hi ⟨sJ, hD⟩ ⟨rfl, rfl⟩
      have ei : (0 : Int) + (i : Nat) = (i : Nat) := Int.zero_add _
      refine ⟨rfl, ?_⟩
      refine ⟨_, rfl, _, rfl, _, rfl, od, [], rfl, .inr (SqT.ext sq sJ), rfl, rfl, _, rfl, iteF ?_⟩
      refine ⟨_, Sum.inl ((0 : Int) + (i : Nat)), rfl, hD, ?_, same_put sJ fresh, ?_⟩
      · unfold marksK zeros
        rw [List.length_map, List.length_take]
        exact small1000 (by omega)
      · rw [upd_same, ei, zeros_take hi]
    · rintro D J fresh ⟨sJ, hD⟩
      have len : (zeros n).length = n := by unfold zeros; rw [List.length_map, List.length_range]
      have whole : (zeros n).take n = zeros n := List.take_of_length_le (Nat.le_of_eq len)
      rw [whole] at hD
      exact q J D sJ fresh hD
theorem ok_named {f C : Addr} {mc : Value} {fd : FuncData} (F : Fun K "named" "named" sNamed f fd) (T : ChkT K mg C mc) (mz : mg "zip" = none) (md : mg "dict" = none) : FnOk P w K mg base CX0 1 f fd ["pairs"] spNamed := by
  refine F.ok scNamed (fun vs H Q E h => ?_) (fun cdv A outer s H vs Q E hr h => ?_)
  · obtain ⟨l, pz, rfl, _⟩ := h
    rfl
  · obtain ⟨l, pz, rfl, ⟨hl, _⟩, few, q⟩ := h
    obtain ⟨t, nm⟩ := T.names
    rw [txt_alpha] at nm
    refine ⟨_, pss_one (ps_ret (pe_dictzip rfl (by rfl) mz (by rfl) md (pa_cons (pe_glob (v := .str (txt alpha)) (by rfl) nm ⟨t, rfl⟩) (pa_cons (pv 0) pa_nil)))), ?_⟩
    refine ⟨_, rfl, alpha, l, _, rfl, SqL.of hl, by rw [List.length_map]; exact Nat.le_of_lt few, by decide, alpha_nodup, fun p np => ?_⟩
    rw [lettered_edges]
    exact q p np
end


end T78

namespace T78
open PySem PySem.Spec PyProof.Rows L2 Tm
open ClX
/-- what the module's names hold, as far as complete and bipartite ask -/
structure BuiltT (K : PySem.W.Frag) (mg : Str → Option Value) (C : Addr) (mc : Value) : Prop where
  edges : ∃ u, CVal K C mc "MAX_EDGES" (.int 24) u
  most : ∃ t, mg "MAX_COMPLETE" = some (.int 7 t)
  range : mg "range" = none
  zip : mg "zip" = none
  dict : mg "dict" = none
abbrev sComp : Stmt := inClass (topS 24) 8
theorem sccomp : FnScope ["cls", "count", "odd", "marks", "pairs", "one", "other"] ["cls", "count", "odd"] (defScope sComp) := ⟨rfl, rfl, rfl, by decide +kernel, rfl, by decide +kernel, by decide +kernel⟩
section
variable {P : Program} {w : World} {K : PySem.W.Frag} {mg : Str → Option Value} {base : Heap}
set_option maxHeartbeats 2000000 in
theorem ok_comp {f fI fM fN C : Addr} {mc : Value} {fd fdI fdM fdN : FuncData} (F : Fun K "complete" "Web.complete" sComp f fd) (M : Mk K C fI) (GI : FnOk P w K mg base CX0 3 fI fdI ["self", "marks", "edges"] (spWInit C)) (bI : Binds K fdI ["self", "marks", "edges"] [])
    (FM : Fun K "marks_up_to" "marks_up_to" sMut fM fdM) (bM : Binds K fdM ["count", "odd"] []) (gM : mg "marks_up_to" = some (.ref fM)) (FN : Fun K "named" "named" sNamed fN fdN) (bN : Binds K fdN ["pairs"] []) (gN : mg "named" = some (.ref fN))
    (T : ChkT K mg C mc) (B : BuiltT K mg C mc) : FnOk P w K mg base CX0 5 f fd ["cls", "count", "odd"] (spBuilt K C [.int 3] (rowsP (· + 1) 3 3)) := by
  have GM : FnOk P w K mg base CX0 1 fM fdM ["count", "odd"] (spMUT K) := ok_mut FM B.range
  have GN : FnOk P w K mg base CX0 1 fN fdN ["pairs"] spNamed := ok_named FN T B.zip B.dict
  refine F.ok sccomp (fun vs H Q E h => ?_) (fun cdv A outer s H vs Q E hr h => ?_)
  · obtain ⟨od, rfl, _⟩ := h
    rfl
  · obtain ⟨od, rfl, sq, hand⟩ := h
    obtain ⟨u1, cv1⟩ := T.nodes
    obtain ⟨u2, cv2⟩ := B.edges
    obtain ⟨tm, mx⟩ := B.most
    have hr1 : Room 1 _ := hr.mono (by decide)
    refine ⟨_, (pss_cons (ps_if (pt_cmpR op_gt (pv 1) (pe_glob (v := .int 7) (by rfl) mx ⟨tm, rfl⟩) (by rfl)) pss_never pss_nil)
      (pss_cons (ps_set (i := 3) sccomp.nd rfl (.inl rfl) (pe_call GM hr1 (by rfl) gM FM.kp bM .nil pass0 (pa_cons (pv 1) (pa_cons (pv 2) pa_nil))))
      (pss_cons (ps_setLc2 (i := 4) (own := [("one", 5), ("other", 6)]) (vs1 := [6]) (g := gName 5) (g1 := gName 6) (tt := tYes) (tt1 := tYes) rfl sccomp.nd rfl rfl (sw_true rfl rfl rfl rfl) (pi_range1 (by rfl) B.range (pa_cons (pv 1) pa_nil)) (blkOk_by (own := [("one", 5), ("other", 6)]) (N := ["cls", "count", "odd", "marks", "pairs", "one", "other"]) (sc := defScope sComp) (by decide +kernel)) (by decide)
        (fun _ _ _ _ _ => pg_name (i := 5) sccomp.nd rfl (Or.inl rfl)) (fun _ _ _ _ _ => pts_nil) (fun _ _ _ _ _ => (pi_range2 (by rfl) B.range (pa_cons (pe_op op_add (pv 5) pe_int) (pa_cons (pv 1) pa_nil)))) (fun _ _ _ _ _ => pg_name (i := 6) sccomp.nd rfl (Or.inl rfl)) (fun _ _ _ _ _ => pts_nil)
        (fun _ _ _ _ _ => pe_tup (pa_cons (pv 5) (pa_cons (pv 6) pa_nil))))
      (pss_one (ps_ret (pe_makeV (i := 0) rfl (.inl rfl) M GI hr bI .nil pass0 (pa_cons (pv 3) (pa_cons (pe_call GN hr1 (by rfl) gN FN.kp bN .nil pass0 (pa_cons (pv 4) pa_nil)) pa_nil)))))))), ?_⟩
    refine ⟨_, rfl, 3, 7, rfl, rfl, _, rfl, iteF ?_⟩
    refine ⟨_, rfl, _, rfl, 3, od, rfl, by decide, sq, fun H2 dm s2 nm hm => ?_⟩
    refine ⟨_, rfl, 3, rfl, by decide, by decide, fun D nD => ?_⟩
    have fD : H D = none := s2.free nD
    refine go_it (walk_range (lo := 0) (n := 3)) (fun i J => Same H2 J ∧ ∃ pz : List (Addr × Int × Int), PairsZ J D pz ∧ pz.map (·.2) = rowsP (· + 1) 3 i) ⟨same_upd nD, [], ⟨upd_same, fun a ha => by cases ha⟩, rfl⟩ (fun _ _ _ _ => trivial) ?_ ?_
    · rintro i v J J' hi ⟨sJ, pz, hz, ez⟩ ⟨rfl, rfl⟩
      refine ⟨rfl, ?_⟩
      refine ⟨_, rfl, _, _, rfl, rfl, _, rfl, _, _, rfl, ⟨by omega, by omega, by decide, by decide⟩, ?_⟩
      have begin_ : (0 : Int) + (i : Nat) = (i : Nat) := Int.zero_add _
      have many : ((3 : Int) - ((0 : Int) + (i : Nat) + 1)).toNat = 3 - (i + 1) := by omega
      rw [many]
      refine go_it (walk_range (lo := (0 : Int) + (i : Nat) + 1) (n := 3 - (· + 1) i)) (fun j L => Same H2 L ∧ ∃ pz : List (Addr × Int × Int), PairsZ L D pz ∧ pz.map (·.2) = rowsP (· + 1) 3 i ++ (rowP (· + 1) 3 i).take j) ⟨sJ, pz, hz, by rw [ez]; simp⟩ (fun _ _ _ _ => trivial) ?_ ?_
      · rintro j v L L' hj ⟨sL, pw, hw, ew⟩ ⟨rfl, rfl⟩
        refine ⟨rfl, ?_⟩
        refine ⟨_, rfl, _, rfl, by show 2 ≤ sizeLine; decide, fun T nT => ?_⟩
        have nTD : D ≠ T := ne_of_none hw.1 nT
        refine ⟨_, by rw [upd_ne nTD]; exact hw.1, ?_, ?_, pw ++ [(T, _, _)], pairsZ_add hw nT, ?_⟩
        · rw [List.length_map, ← List.length_map (f := (·.2)), ew, List.length_append]
          have b1 := rowP_length (· + 1) 3 i
          have b2 : (rowsP (· + 1) 3 i).length ≤ 24 := by
            have three : i = 0 ∨ i = 1 ∨ i = 2 := by omega
            rcases three with rfl | rfl | rfl <;> decide
          rw [List.length_take]
          have b3 : (rowP (· + 1) 3 i).length ≤ 12 := by rw [b1]; show 3 - (i + 1) ≤ 12; omega
          exact small1000 (by omega)
        · exact same_put (sL.trans (same_upd nT)) nD
        · rw [List.map_append, ew, rowP_take (lo := (· + 1)) (hi := 3) (i := i) hj, List.append_assoc]
          first | (simp; done) | (simp; omega)
      · rintro L ⟨sL, pw, hw, ew⟩
        refine ⟨sL, pw, hw, ?_⟩
        have whole : (rowP (· + 1) 3 i).take (3 - (· + 1) i) = rowP (· + 1) 3 i := List.take_of_length_le (Nat.le_of_eq (rowP_length (· + 1) 3 i))
        rw [ew, whole, rowsP_succ]
    · rintro J ⟨sJ, pz, hz, ez⟩
      have few : pz.length < 24 := by
        rw [← List.length_map (f := (·.2)), ez]
        decide
      refine ⟨rfl, _, rfl, _, rfl, D, pz, rfl, hz, few, fun de nde => ?_⟩
      have s4 : Same J (upd J de (.dK (endsK (edgesOf alpha pz)))) := same_upd nde
      have he : (upd J de (.dK (endsK (edgesOf alpha pz)))) de = some (.dK (endsK (edgesOf alpha pz))) := upd_same
      generalize upd J de (.dK (endsK (edgesOf alpha pz))) = H4 at s4 he ⊢
      have s24 := sJ.trans s4
      have sA := s2.trans s24
      intro x dx nx ndx nex
      have s5 : Same H4 (upd (upd H4 dx (.own x)) x (.ins C dx [])) := fun b o e => by
        rw [upd_ne (ne_of_none e nx), upd_ne (ne_of_none e ndx)]
        exact e
      have fx : H x = none := sA.free nx
      refine ⟨x, dx, dm, de, zeros 3, edgesOf alpha pz, rfl, upd_same, s5 _ _ (s24 _ _ hm), s5 _ _ he, ?_, ?_, fun H' ms' es' kp web made => ⟨rfl, ?_⟩⟩
      · unfold MarksOk; decide
      · refine edges_built (hz.same (s4.trans s5)) few ?_
        rw [ez]
        decide
      · refine hand H' x ms' es' (fun b o e => kp b o (fun z => by rw [z, fx] at e; cases e) (s5 _ _ (sA _ _ e))) fx web ?_
        have m := made.2
        rw [tri_built, ez] at m
        exact m
end

section
variable {K : PySem.W.Frag}
theorem kw_comp {f D od : Addr} {oc doc pm cd ct : Value} {o2 an : Option Addr} {sl : Array (Option Value)} (l : K.lookup f = some ⟨oc, o2, .func (PySem.W.fnOf "complete" "Web.complete" (defArgs sComp) (defBody sComp) (defScope sComp) .none (.ref D) doc pm an cd ct), sl⟩)
    (c : PySem.W.codeIn K cd "Web.complete" = true) (k : PySem.W.keepIn K (.ref f) = true) (n : PySem.W.nsIn K D "odd" = some (some (.ref od))) :
    ∃ ds, Vals [.ref od] ds ∧ Binds K (PySem.W.fnOf "complete" "Web.complete" (defArgs sComp) (defBody sComp) (defScope sComp) .none (.ref D) doc pm an cd ct) ["cls", "count", "odd"] ds := by
  have W : FunD K "complete" "Web.complete" (defArgs sComp) (defBody sComp) (defScope sComp) [] [("odd", .ref od)] f (PySem.W.fnOf "complete" "Web.complete" (defArgs sComp) (defBody sComp) (defScope sComp) .none (.ref D) doc pm an cd ct) :=
    ⟨⟨oc, o2, .none, .ref D, doc, pm, an, cd, ct, sl, rfl, l, c, .inl ⟨rfl, rfl⟩, .inr ⟨D, rfl, fun q hq => by rw [List.mem_singleton.mp hq]; exact ⟨_, n, rfl⟩⟩⟩, k⟩
  exact W.binds0 (ps := ["cls", "count", "odd"]) 2 (by simp) rfl fun D doc pm an cd ct us ks l1 l2 => match us, ks, l1, l2 with | [_, _], [_], _, _ => ⟨_, _, _, _, _, _, rfl, rfl, rfl⟩
theorem sq_given {od : Addr} {dd : Option Addr} {n : Nat} {sl : Array (Option Value)} (h : K.lookup od = some ⟨.type "tuple", dd, .seq #[] n, sl⟩) (H : Hp) : SqT K H od [] :=
  .inr ⟨_, #[], n, h, rfl, rfl, by decide, .nil⟩
end


end T78

namespace T78
open PySem PySem.Spec PyProof.Rows L2 Tm
abbrev sIsStr : Stmt := topS 32
abbrev sChkS : Stmt := topS 33
abbrev sTwo : Stmt := topS 34
abbrev sMult : Stmt := topS 35
theorem scIsStr : FnScope ["text", "letter"] ["text"] (defScope sIsStr) := ⟨rfl, rfl, rfl, by decide +kernel, rfl, by decide +kernel, by decide +kernel⟩
theorem scChkS : FnScope ["text"] ["text"] (defScope sChkS) := ⟨rfl, rfl, rfl, by decide +kernel, rfl, by decide +kernel, by decide +kernel⟩
theorem scTwo : FnScope ["one", "other", "products", "turns", "left", "right", "text"] ["one", "other"] (defScope sTwo) := ⟨rfl, rfl, rfl, by decide +kernel, rfl, by decide +kernel, by decide +kernel⟩
theorem scMult : FnScope ["strings", "text", "total"] ["strings"] (defScope sMult) := ⟨rfl, rfl, rfl, by decide +kernel, rfl, by decide +kernel, by decide +kernel⟩
section
variable {P : Program} {w : World} {K : PySem.W.Frag} {mg : Str → Option Value} {base : Heap}
theorem ok_isstr {f fL : Addr} {fd fdL : FuncData} {t : Tok} (F : Fun K "is_string" "is_string" sIsStr f fd) (FL : Fun K "letters_of" "letters_of" sLettersOf fL fdL) (bL : Binds K fdL ["text"] []) (gL : mg "letters_of" = some (.ref fL)) (gA : mg "STRING_LETTERS" = some (.str (Str.ofString "1XZW") t)) (ma : mg "all" = none) :
    FnOk P w K mg base CX0 2 f fd ["text"] spIsStr := by
  have GL : FnOk P w K mg base CX0 1 fL fdL ["text"] spLetters := ok_letters FL
  refine F.ok scIsStr (fun vs H Q E h => ?_) (fun cdv A outer s H vs Q E hr h => ?_)
  · obtain ⟨ts, rfl, _⟩ := h
    rfl
  · obtain ⟨ts, rfl, hz, q⟩ := h
    refine ⟨_, pss_one (ps_ret (pe_callB (cr_all rfl) (by rfl) ma (by decide +kernel) (pa_cons (pe_lc (own := [("letter", 1)]) (g := gName 1) (tt := tYes) rfl scIsStr.nd (pi_str (pe_call GL hr (by rfl) gL FL.kp bL .nil pass0 (pa_cons (pv 0) pa_nil))) (blkOk_by (own := [("letter", 1)]) (N := ["text", "letter"]) (sc := defScope sIsStr) (by decide +kernel))
        (fun _ _ _ _ _ => pg_name (i := 1) scIsStr.nd rfl (Or.inl rfl)) (fun _ _ _ _ _ => pts_nil) (fun _ _ _ _ _ => pe_cmpR op_in_sign (pv 1) (pe_glob (v := .str (Str.ofString "1XZW")) rfl gA ⟨_, rfl⟩) (by rfl))) pa_nil))), ?_⟩
    have le := lettersL_le ts
    refine ⟨_, rfl, ts, rfl, Nat.le_of_lt (small1000 hz), _, rfl, fun D nD => ?_⟩
    have hsz : (txt (lettersL ts)).cps.size = (lettersL ts).length := txt_len _
    refine lc_it (walk_str (z := txt (lettersL ts))) (fun i H' => Same H H' ∧ H' D = some (.lst ((((lettersL ts).take i).map fun c => decide (c ∈ Al)).map V.bl))) ⟨same_upd nD, upd_same⟩ (fun _ _ _ _ => trivial) ?_ ?_
    · rintro i v H1 H2 hi ⟨s1, hD⟩ ⟨rfl, c, hc, rfl⟩
      rw [hsz] at hi
      have ec := at_txt hc
      refine ⟨rfl, ?_⟩
      refine ⟨_, rfl, c, _, rfl, rfl, _, hD, ?_, same_put s1 nD, ?_⟩
      · rw [List.length_map, List.length_map, List.length_take]
        exact small1000 (by omega)
      · rw [upd_same, List.take_succ, ec, List.map_append, List.map_append, txt_al, txt_cps]
        rfl
    · rintro H1 ⟨s1, hD⟩
      rw [hsz, List.take_length] at hD
      refine ⟨D, _, rfl, SqL.of hD, ?_⟩
      rw [List.all_map]
      exact q H1 s1
theorem ok_chks {f fI fL : Addr} {fd fdI fdL : FuncData} {t : Tok} (F : Fun K "check_string" "check_string" sChkS f fd) (FI : Fun K "is_string" "is_string" sIsStr fI fdI) (bI : Binds K fdI ["text"] []) (gI : mg "is_string" = some (.ref fI))
    (FL : Fun K "letters_of" "letters_of" sLettersOf fL fdL) (bL : Binds K fdL ["text"] []) (gL : mg "letters_of" = some (.ref fL)) (gA : mg "STRING_LETTERS" = some (.str (Str.ofString "1XZW") t)) (ma : mg "all" = none) : FnOk P w K mg base CX0 3 f fd ["text"] spChkS := by
  have GI : FnOk P w K mg base CX0 2 fI fdI ["text"] spIsStr := ok_isstr FI FL bL gL gA ma
  refine F.ok scChkS (fun vs H Q E h => ?_) (fun cdv A outer s H vs Q E hr h => ?_)
  · obtain ⟨ts, rfl, _⟩ := h
    rfl
  · obtain ⟨ts, rfl, hz, al, q⟩ := h
    refine ⟨_, pss_one (ps_if (pt_not (pt_val (pe_call GI hr (by rfl) gI FI.kp bI .nil pass0 (pa_cons (pv 0) pa_nil)))) pss_never pss_nil), ?_⟩
    refine ⟨_, rfl, ts, rfl, hz, fun H1 s1 => ⟨_, rfl, ?_⟩⟩
    rw [all_al al]
    exact iteF (q H1 s1)
theorem ok_two {f fL fO fS pd : Addr} {fd fdL fdO fdS : FuncData} (F : Fun K "product_of_two" "product_of_two" sTwo f fd) (FL : Fun K "letters_of" "letters_of" sLettersOf fL fdL) (bL : Binds K fdL ["text"] []) (gL : mg "letters_of" = some (.ref fL))
    (FO : Fun K "sign_of" "sign_of" sSignOf fO fdO) (bO : Binds K fdO ["text"] []) (gO : mg "sign_of" = some (.ref fO)) (FS : Fun K "signed" "signed" sSigned fS fdS) (bS : Binds K fdS ["turns", "letters"] []) (gS : mg "signed" = some (.ref fS))
    (gD : mg "PRODUCTS" = some (.ref pd)) (KD : ∀ a ∈ Al, ∀ b ∈ Al, KDct K w pd (txt [a, b]) (tv (pP a b))) (ml : mg "len" = none) (ms : mg "sum" = none) (mz : mg "zip" = none) : FnOk P w K mg base CX0 3 f fd ["one", "other"] spTwo := by
  have GL : FnOk P w K mg base CX0 1 fL fdL ["text"] spLetters := ok_letters FL
  have GO : FnOk P w K mg base CX0 2 fO fdO ["text"] spSignOf := ok_signof FO FL bL gL ml
  have GS : FnOk P w K mg base CX0 1 fS fdS ["turns", "letters"] spSigned := ok_signed FS
  refine F.ok scTwo (fun vs H Q E h => ?_) (fun cdv A outer s H vs Q E hr h => ?_)
  · obtain ⟨n, x, y, rfl, _⟩ := h
    rfl
  · obtain ⟨n, x, y, rfl, hn, hx, hy, q⟩ := h
    have hr1 : Room 1 _ := hr.mono (by decide)
    refine ⟨_, pss_cons (ps_setLc (i := 2) (own := [("left", 4), ("right", 5)]) (g := gTup K 2 (gCons (gName 4) (gCons (gName 5) gNil))) (tt := tYes) rfl scTwo.nd rfl rfl (sw_true rfl rfl rfl (by decide +kernel))
        (pi_zipS (by rfl) mz (pa_cons (pe_call GL hr1 (by rfl) gL FL.kp bL .nil pass0 (pa_cons (pv 0) pa_nil)) (pa_cons (pe_call GL hr1 (by rfl) gL FL.kp bL .nil pass0 (pa_cons (pv 1) pa_nil)) pa_nil)))
        (blkOk_by (own := [("left", 4), ("right", 5)]) (N := ["one", "other", "products", "turns", "left", "right", "text"]) (sc := defScope sTwo) (by decide +kernel))
        (fun _ _ _ _ _ => pg_tup rfl (pgs_cons (pg_name (i := 4) scTwo.nd rfl (Or.inl rfl)) (pgs_cons (pg_name (i := 5) scTwo.nd rfl (Or.inl rfl)) pgs_nil))) (fun _ _ _ _ _ => pts_nil)
        (fun _ _ _ _ _ => pe_ix (r := rIxD K w) ix_kdict (pe_glob (v := .ref pd) rfl gD rfl) (pe_op op_add_str (pv 4) (pv 5)) (fun _ _ => rfl)))
      (pss_cons (ps_set (i := 3) scTwo.nd rfl (.inl rfl) (pe_op op_add (pe_op op_add (pe_call GO hr (by rfl) gO FO.kp bO .nil pass0 (pa_cons (pv 0) pa_nil)) (pe_call GO hr (by rfl) gO FO.kp bO .nil pass0 (pa_cons (pv 1) pa_nil)))
        (pe_callB (cr_sum rfl) (by rfl) ms boot_sum (pa_cons (pe_lc (own := [("text", 6)]) (g := gName 6) (tt := tYes) rfl scTwo.nd (pi_list (pv 2)) (blkOk_by (own := [("text", 6)]) (N := ["one", "other", "products", "turns", "left", "right", "text"]) (sc := defScope sTwo) (by decide +kernel))
          (fun _ _ _ _ _ => pg_name (i := 6) scTwo.nd rfl (Or.inl rfl)) (fun _ _ _ _ _ => pts_nil) (fun _ _ _ _ _ => pe_call GO hr (by rfl) gO FO.kp bO .nil pass0 (pa_cons (pv 6) pa_nil))) pa_nil))))
      (pss_one (ps_ret (pe_call GS hr1 (by rfl) gS FS.kp bS .nil pass0 (pa_cons (pv 3) (pa_cons (pe_join pe_str (pe_lc (own := [("text", 6)]) (g := gName 6) (tt := tYes) rfl scTwo.nd (pi_list (pv 2)) (blkOk_by (own := [("text", 6)]) (N := ["one", "other", "products", "turns", "left", "right", "text"]) (sc := defScope sTwo) (by decide +kernel))
          (fun _ _ _ _ _ => pg_name (i := 6) scTwo.nd rfl (Or.inl rfl)) (fun _ _ _ _ _ => pts_nil) (fun _ _ _ _ _ => pe_call GL hr1 (by rfl) gL FL.kp bL .nil pass0 (pa_cons (pv 6) pa_nil)))) pa_nil)))))), ?_⟩
    obtain ⟨sx, lx, ax⟩ := hx.len
    obtain ⟨sy, ly, ay⟩ := hy.len
    have plen : (prodsL (lettersL x) (lettersL y)).length = n := by
      unfold prodsL
      rw [List.length_zipWith]; omega
    have pal := prods_al ax ay
    have short : ∀ z ∈ prodsL (lettersL x) (lettersL y), z.length ≤ 2 := fun z hz => by
      obtain ⟨a, ha, b, hb, rfl⟩ := pal z hz
      exact (p_form a ha b hb).2.2.2
    have at_i : ∀ {i : Nat} {v : V}, ((prodsL (lettersL x) (lettersL y)).map tv)[i]? = some v → ∃ z, (prodsL (lettersL x) (lettersL y))[i]? = some z ∧ v = tv z ∧ z.length ≤ 2 := by
      intro i v hv
      rw [List.getElem?_map] at hv
      cases ex : (prodsL (lettersL x) (lettersL y))[i]? with
      | none => rw [ex] at hv; cases hv
      | some z =>
        rw [ex] at hv
        exact ⟨z, rfl, (Option.some.inj hv).symm, short z (List.mem_of_getElem? ex)⟩
    have zx : x.length ≤ sizeLine := Nat.le_of_lt (small1000 (by omega))
    have zy : y.length ≤ sizeLine := Nat.le_of_lt (small1000 (by omega))
    refine ⟨_, rfl, x, rfl, zx, _, rfl, y, rfl, zy, lettersL x, lettersL y, rfl, fun D nD => ?_⟩
    refine lc_it walk_zipS (fun i H' => Same H H' ∧ H' D = some (.lst (((prodsL (lettersL x) (lettersL y)).take i).map tv))) ⟨same_upd nD, upd_same⟩ (fun _ _ _ _ => trivial) ?_ ?_
    · rintro i v H1 H2 hi ⟨s1, hD⟩ ⟨T, c, d, rfl, nT, rfl, hc, hd⟩
      have ec := prods_at hc hd
      have hca : c ∈ Al := ax c (List.mem_of_getElem? hc)
      have hda : d ∈ Al := ay d (List.mem_of_getElem? hd)
      refine ⟨T, _, rfl, .inl (.inl upd_same), rfl, _, _, rfl, _, _, rfl, rfl, rfl, ?_⟩
      refine ⟨_, rfl, _, rfl, _, _, rfl, rfl, by show 1 + 1 ≤ sizeLine; decide, pd, txt [c, d], _, rfl, congrArg V.str (txt_app [c] [d]), KD c hca d hda, ?_⟩
      refine ⟨_, (same_upd nT) _ _ hD, ?_, same_put (s1.trans (same_upd nT)) nD, ?_⟩
      · rw [List.length_map, List.length_take]
        exact small1000 (by omega)
      · rw [upd_same, List.take_succ, ec, List.map_append]
        rfl
    rintro H1 ⟨s1, hD⟩
    have efull : (prodsL (lettersL x) (lettersL y)).take (min (lettersL x).length (lettersL y).length) = prodsL (lettersL x) (lettersL y) := List.take_of_length_le (by omega)
    rw [efull] at hD
    have len : ((prodsL (lettersL x) (lettersL y)).map tv).length = n := by rw [List.length_map, plen]
    refine ⟨_, rfl, x, rfl, zx, _, rfl, y, rfl, zy, _, _, rfl, rfl, _, rfl, D, rfl, ⟨_, SqL.of hD⟩, fun D2 nD2 => ?_⟩
    refine lc_list (K := K) (a := D) (xs := (prodsL (lettersL x) (lettersL y)).map tv) (fun i H' => Same H1 H' ∧ H' D2 = some (.lst ((((prodsL (lettersL x) (lettersL y)).take i).map signL).map fun n : Nat => V.int n))) ⟨same_upd nD2, upd_same⟩ (fun i H' _ hv => SqL.of (hv.1 _ _ hD)) ?_ ?_
    · rintro i v H2 hv ⟨s2, hD2⟩
      obtain ⟨z, ez, rfl, hz⟩ := at_i hv
      have hi : i < (prodsL (lettersL x) (lettersL y)).length := (List.getElem?_eq_some_iff.mp ez).1
      refine ⟨rfl, ?_⟩
      refine ⟨_, rfl, z, rfl, Nat.le_of_lt (small1000 (by omega)), _, hD2, ?_, same_put s2 nD2, ?_⟩
      · rw [List.length_map, List.length_map, List.length_take]
        exact small1000 (by omega)
      · rw [upd_same, List.take_succ, ez, List.map_append, List.map_append]
        rfl
    rintro H2 ⟨s2, hD2⟩
    rw [len, ← plen, List.take_length] at hD2
    have hD3 : H2 D2 = some (.lst ((((prodsL (lettersL x) (lettersL y)).map signL).map fun n : Nat => (n : Int)).map V.int)) := by
      rw [hD2, List.map_map (f := fun n : Nat => (n : Int))]
      rfl
    refine ⟨D2, _, rfl, SqL.of hD3, _, _, rfl, rfl, _, rfl, ⟨_, rfl⟩, _, rfl, D, rfl, ⟨_, SqL.of (s2 _ _ hD)⟩, fun D4 nD4 => ?_⟩
    refine lc_list (K := K) (a := D) (xs := (prodsL (lettersL x) (lettersL y)).map tv) (fun i H' => Same H2 H' ∧ H' D4 = some (.lst ((((prodsL (lettersL x) (lettersL y)).take i).map lettersL).map tv))) ⟨same_upd nD4, upd_same⟩ (fun i H' _ hv => SqL.of (hv.1 _ _ (s2 _ _ hD))) ?_ ?_
    · rintro i v H3 hv ⟨s3, hD4⟩
      obtain ⟨z, ez, rfl, hz⟩ := at_i hv
      have hi : i < (prodsL (lettersL x) (lettersL y)).length := (List.getElem?_eq_some_iff.mp ez).1
      refine ⟨rfl, ?_⟩
      refine ⟨_, rfl, z, rfl, Nat.le_of_lt (small1000 (by omega)), _, hD4, ?_, same_put s3 nD4, ?_⟩
      · rw [List.length_map, List.length_map, List.length_take]
        exact small1000 (by omega)
      · rw [upd_same, List.take_succ, ez, List.map_append, List.map_append]
        rfl
    rintro H3 ⟨s3, hD4⟩
    rw [len, ← plen, List.take_length] at hD4
    have hD5 : H3 D4 = some (.lst ((((prodsL (lettersL x) (lettersL y)).map lettersL).map txt).map V.str)) := by
      rw [hD4, List.map_map (f := txt)]
      rfl
    have zl := zL_len (as := lettersL x) (bs := lettersL y) (by omega)
    refine ⟨Str.ofString "", D4, ((prodsL (lettersL x) (lettersL y)).map lettersL).map txt, rfl, rfl, .inl (SqL.of hD5), ?_, ?_⟩
    · rw [lens_txt, prods_letters _ _ ax ay, zl, txt_empty, txt_len]
      simp
      omega
    rw [join_txt, prods_letters _ _ ax ay, sum_int, prods_sign]
    refine ⟨_, zL (lettersL x) (lettersL y), rfl, small1000 (by omega), ?_⟩
    have e := q H3 ((s1.trans s2).trans s3)
    unfold two at e
    rw [Int.natCast_add, Int.natCast_add] at e
    exact e
end


end T78

namespace T78
open PySem PySem.Spec PyProof.Rows L2 Tm
abbrev sIden : Stmt := topS 36
theorem scIden : FnScope ["size"] ["size"] (defScope sIden) := ⟨rfl, rfl, rfl, by decide +kernel, rfl, by decide +kernel, by decide +kernel⟩
section
variable {P : Program} {w : World} {K : PySem.W.Frag} {mg : Str → Option Value} {base : Heap}
theorem ok_mult {f fC fI fT fL fO fS pd : Addr} {fd fdC fdI fdT fdL fdO fdS : FuncData} {t : Tok} (F : Fun K "multiply" "multiply" sMult f fd) (FC : Fun K "check_string" "check_string" sChkS fC fdC) (bC : Binds K fdC ["text"] []) (gC : mg "check_string" = some (.ref fC))
    (FI : Fun K "is_string" "is_string" sIsStr fI fdI) (bI : Binds K fdI ["text"] []) (gI : mg "is_string" = some (.ref fI)) (FT : Fun K "product_of_two" "product_of_two" sTwo fT fdT) (bT : Binds K fdT ["one", "other"] []) (gT : mg "product_of_two" = some (.ref fT))
    (FL : Fun K "letters_of" "letters_of" sLettersOf fL fdL) (bL : Binds K fdL ["text"] []) (gL : mg "letters_of" = some (.ref fL))
    (FO : Fun K "sign_of" "sign_of" sSignOf fO fdO) (bO : Binds K fdO ["text"] []) (gO : mg "sign_of" = some (.ref fO)) (FS : Fun K "signed" "signed" sSigned fS fdS) (bS : Binds K fdS ["turns", "letters"] []) (gS : mg "signed" = some (.ref fS))
    (gA : mg "STRING_LETTERS" = some (.str (Str.ofString "1XZW") t)) (gD : mg "PRODUCTS" = some (.ref pd)) (KD : ∀ a ∈ Al, ∀ b ∈ Al, KDct K w pd (txt [a, b]) (tv (pP a b))) (ml : mg "len" = none) (ms : mg "sum" = none) (mz : mg "zip" = none) (ma : mg "all" = none) :
    FnR P w K mg base CX0 4 f spMult := by
  have GL : FnOk P w K mg base CX0 1 fL fdL ["text"] spLetters := ok_letters FL
  have GC : FnOk P w K mg base CX0 3 fC fdC ["text"] spChkS := ok_chks FC FI bI gI FL bL gL gA ma
  have GT : FnOk P w K mg base CX0 3 fT fdT ["one", "other"] spTwo := ok_two FT FL bL gL FO bO gO FS bS gS gD KD ml ms mz
  rcases F.ex with ⟨_, _, _, _, _, _, cdv, _, _, rfl, look, code⟩
  refine FnR.imp (StX.fn_star (ps := []) (pv := "strings") (sp := spMultT) (k := 3) look code scMult StX.cxUp_none ?bind ?body) ?imp
  case bind =>
    intro us rest h
    match us, rest, h with
    | [], [], _ => rfl
    | [], r :: rs, _ => rfl
  case imp =>
    rintro vs H Q E ⟨n, xss, rfl, hn, few, all, q⟩
    refine ⟨[], _, rfl, rfl, ?_, fun p np => ⟨p, n, xss, rfl, upd_same, hn, few, all, fun H' s' => q H' ((same_upd np).trans s')⟩⟩
    rw [List.length_map]
    exact Nat.le_of_lt (small1000 (by omega))
  case body =>
    intro A outer s H vs Q E hr h
    obtain ⟨p, n, xss, rfl, hp, hn, few, all, q⟩ := h
    have hr1 : Room 1 _ := hr.mono (by decide)
    refine ⟨_, PSs.nox (pss_cons (ps_for PassesOwn.never rfl (pi_tup (pv 0)) (pg_name (i := 1) scMult.nd rfl (.inl rfl)) (pss_one (ps_expr (pe_call GC hr (by rfl) gC FC.kp bC .nil pass0 (pa_cons (pv 1) pa_nil)))))
      (pss_cons (ps_if (pt_cmpR op_gt (pe_callB call_lenI (by rfl) ml PySem.boot_len (pa_cons (pe_setI (own := [("text", 1)]) (g := gName 1) rfl scMult.nd (pi_tup (pv 0)) (blkOk_by (own := [("text", 1)]) (N := ["strings", "text", "total"]) (sc := defScope sMult) (by decide +kernel))
          (fun _ _ _ _ _ => pg_name (i := 1) scMult.nd rfl (Or.inl rfl)) (fun _ _ _ _ _ => pe_callB call_len_str (by rfl) ml PySem.boot_len (pa_cons (pe_call GL hr1 (by rfl) gL FL.kp bL .nil pass0 (pa_cons (pv 1) pa_nil)) pa_nil))) pa_nil)) pe_int (nomark _)) pss_never pss_nil)
      (pss_cons (ps_if (pt_cmpR op_eq (pe_callB call_len_seq (by rfl) ml PySem.boot_len (pa_cons (pv 0) pa_nil)) pe_int (nomark _)) (pss_one (ps_ret pe_str)) pss_nil)
      (pss_cons (ps_set (i := 2) scMult.nd rfl (.inl rfl) (pe_ix ix_tup (pv 0) pe_int (fun _ _ => rfl)))
      (pss_cons (ps_for PassesOwn.never rfl (pi_tup (pe_slice sl_tup (pv 0) (po_some pe_int) po_none)) (pg_name (i := 1) scMult.nd rfl (.inl rfl)) (pss_one (ps_set (i := 2) scMult.nd rfl (.inl rfl) (pe_call GT hr (by rfl) gT FT.kp bT .nil pass0 (pa_cons (pv 2) (pa_cons (pv 1) pa_nil))))))
      (pss_one (ps_ret (pv 2)))))))), ?_⟩
    have len : (xss.map tv).length = xss.length := List.length_map ..
    have at_i : ∀ {i : Nat} {v : V}, (xss.map tv)[i]? = some v → ∃ x, xss[i]? = some x ∧ v = tv x ∧ Sn n x := by
      intro i v hv
      rw [List.getElem?_map] at hv
      cases ex : xss[i]? with
      | none => rw [ex] at hv; cases hv
      | some x =>
        rw [ex] at hv
        exact ⟨x, rfl, (Option.some.inj hv).symm, all x (List.mem_of_getElem? ex)⟩
    refine ⟨_, rfl, p, rfl, ⟨_, .inl (.inl hp)⟩, ?_⟩
    refine for_it (walk_tup (xs := xss.map tv)) (fun i σ H' => ∃ y, σ = [some (.ref p), y, none] ∧ Same H H') ⟨none, rfl, fun _ _ h => h⟩ (fun i σ H' _ ⟨_, _, s1⟩ => .inl (.inl (s1 _ _ hp))) ?_ ?_
    · rintro i v σ H1 H2 hi ⟨y, rfl, s1⟩ ⟨rfl, hv⟩
      obtain ⟨x, ex, rfl, hx⟩ := at_i hv
      obtain ⟨zx, lx, ax⟩ := hx.len
      exact ⟨_, rfl, x, rfl, by omega, ax, fun H3 s3 => ⟨_, rfl, s1.trans s3⟩⟩
    rintro σ H1 ⟨y, rfl, s1⟩
    refine ⟨_, rfl, p, rfl, ⟨_, .inl (.inl (s1 _ _ hp))⟩, fun D nD => ?_⟩
    refine setI_tup (K := K) (a := p) (xs := xss.map tv) (fun i H' => Same H1 H' ∧ ∃ (S : Int → Bool) (c : Nat), H' D = some (SetO w D S c) ∧ (∀ j, S j = decide (j = (n : Int) ∧ 0 < i)) ∧ c ≤ 1 ∧ (0 < i → c = 1) ∧ (i = 0 → c = 0))
      ⟨same_upd nD, _, 0, upd_same, fun j => (decide_eq_false (by omega)).symm, by omega, fun h => absurd h (Nat.lt_irrefl 0), fun _ => rfl⟩ (fun i H' _ hv => .inl (.inl (hv.1 _ _ (s1 _ _ hp)))) ?_ ?_
    · rintro i v H2 hv ⟨s2, S, c, hD, hS, c1, ci, c0⟩
      obtain ⟨x, ex, rfl, hx⟩ := at_i hv
      obtain ⟨zx, lx, ax⟩ := hx.len
      refine ⟨rfl, ?_⟩
      refine ⟨_, rfl, x, rfl, Nat.le_of_lt (small1000 (by omega)), _, rfl, by rw [txt_len]; exact Nat.le_of_lt (small1000 (by omega)), _, S, c, rfl, hD, by unfold scanBound; omega, same_put s2 nD, _, _, upd_same, ?_, ?_, ?_, ?_⟩
      all_goals (have ek : (((txt (lettersL x)).length : Nat) : Int) = (n : Int) := by rw [txt_len, lx])
      all_goals (have eS : S (((txt (lettersL x)).length : Nat) : Int) = decide (0 < i) := by rw [hS, ek]; by_cases z : 0 < i <;> simp [z])
      · intro j
        show (S j || decide (j = (((txt (lettersL x)).length : Nat) : Int))) = _
        rw [hS, ek]
        by_cases z : j = (n : Int) <;> simp [z]
      · rw [eS]
        by_cases z : 0 < i
        · rw [decide_eq_true z, if_pos rfl]; exact c1
        · rw [decide_eq_false z, if_neg Bool.false_ne_true, c0 (by omega)]
          exact Nat.le_refl _
      · intro _
        rw [eS]
        by_cases z : 0 < i
        · rw [decide_eq_true z, if_pos rfl]; exact ci z
        · rw [decide_eq_false z, if_neg Bool.false_ne_true, c0 (by omega)]
      · intro z
        omega
    rintro H2 ⟨s2, S, c, hD, hS, c1, ci, c0⟩
    have hp2 : H2 p = some (.tup (xss.map tv)) := s2 _ _ (s1 _ _ hp)
    have no : decide (((1 : Int)) < ((c : Nat) : Int)) = false := decide_eq_false (by omega)
    refine ⟨D, S, c, rfl, hD, by omega, _, _, rfl, rfl, _, rfl, ?_⟩
    rw [no]
    refine iteF ?_
    refine ⟨_, rfl, p, _, rfl, .inr (.inl (.inl hp2)), rfl, _, rfl, ?_⟩
    cases xss with
    | nil =>
      refine iteT ?_
      have e := q H2 (s1.trans s2)
      unfold multL tv at e
      rw [← txt_empty] at e
      exact e
    | cons x0 r =>
      have nz : decide (V.int ((((x0 :: r).map tv).length : Nat) : Int) = V.int 0) = false := decide_eq_false fun z => by
        have z2 := V.int.inj z
        rw [List.length_map, List.length_cons] at z2
        omega
      rw [nz]
      refine iteF ?_
      refine ⟨_, rfl, p, _, _, tv x0, rfl, rfl, .inl (.inl hp2), atI_nat (j := 0) (xs := (x0 :: r).map tv) rfl, ?_⟩
      have whole : ¬ (HT.sIx ((x0 :: r).map tv).length 0 (some 1) = 0 ∧ HT.sIx ((x0 :: r).map tv).length ((x0 :: r).map tv).length none = ((x0 :: r).map tv).length) := by
        rintro ⟨z, _⟩
        have z2 : HT.sIx ((x0 :: r).map tv).length 0 (some ((1 : Nat) : Int)) = 0 := z
        rw [HT.sIx_nat, List.length_map, List.length_cons] at z2
        omega
      refine ⟨_, rfl, 1, rfl, p, _, rfl, .inl (.inl hp2), whole, fun o no => ?_⟩
      have ecut : cutV ((x0 :: r).map tv) (some 1) none = r.map tv := cutV_drop ((x0 :: r).map tv) 1
      rw [ecut]
      refine ⟨o, rfl, ⟨_, .inl (.inl upd_same)⟩, ?_⟩
      have h0 : Sn n x0 := all x0 List.mem_cons_self
      have hr' : ∀ y ∈ r, Sn n y := fun y hy => all y (List.mem_cons_of_mem _ hy)
      have lenr : (r.map tv).length = r.length := List.length_map ..
      refine for_it (walk_tup (xs := r.map tv)) (fun i σ H' => ∃ y, σ = [some (.ref p), y, some (tv ((r.take i).foldl two x0))] ∧ Same (upd H2 o (.tup (r.map tv))) H') ⟨_, rfl, fun _ _ h => h⟩ (fun i σ H' _ ⟨_, _, s3⟩ => .inl (.inl (s3 _ _ upd_same))) ?_ ?_
      · rintro i v σ H3 H4 hi ⟨y, rfl, s3⟩ ⟨rfl, hv⟩
        rw [lenr] at hi
        rw [List.getElem?_map, List.getElem?_eq_getElem hi] at hv
        have ev : v = tv r[i] := (Option.some.inj hv).symm
        subst ev
        have part : Sn n ((r.take i).foldl two x0) := Sn.fold h0 fun y hy => hr' y (List.mem_of_mem_take hy)
        refine ⟨_, rfl, _, rfl, n, _, r[i], rfl, hn, part, hr' _ (List.getElem_mem hi), fun H5 s5 => ⟨some (tv r[i]), ?_, s3.trans s5⟩⟩
        rw [List.take_succ_eq_append_getElem hi, fold_snoc]
        rfl
      · rintro σ H3 ⟨y, rfl, s3⟩
        rw [lenr, List.take_length]
        exact ⟨_, rfl, q H3 ((s1.trans s2).trans ((same_upd no).trans s3))⟩
theorem ok_iden {f : Addr} {fd : FuncData} (F : Fun K "identity" "identity" sIden f fd) : FnOk P w K mg base CX0 1 f fd ["size"] spIden := by
  refine F.ok scIden (fun vs H Q E h => ?_) (fun cdv A outer s H vs Q E hr h => ?_)
  · obtain ⟨n, rfl, _⟩ := h
    rfl
  · obtain ⟨n, rfl, hn, q⟩ := h
    refine ⟨_, pss_one (ps_ret (pe_op op_times pe_str (pv 0))), ?_⟩
    exact ⟨_, rfl, 49, n, (by decide +kernel), rfl, by omega, q⟩
end

abbrev sLString : Stmt := topS 60
theorem scLString : FnScope ["_law_bag_here", "_law_size_here", "_law_k"] ["_law_bag_here", "_law_size_here"] (defScope sLString) := ⟨rfl, rfl, rfl, by decide +kernel, rfl, by decide +kernel, by decide +kernel⟩
section
variable {P : Program} {w : World} {K : PySem.W.Frag} {mg : Str → Option Value} {base : Heap}
theorem ok_lstring {f fP fO fS : Addr} {fd fdP fdO fdS : FuncData} (F : Fun K "_law_string" "_law_string" sLString f fd) (FP : Fun K "_law_pull" "_law_pull" sPull fP fdP) (bP : Binds K fdP ["_law_bag_here", "_law_many"] []) (gP : mg "_law_pull" = some (.ref fP))
    (FO : Fun K "_law_of" "_law_of" sOf fO fdO) (bO : Binds K fdO ["_law_bag_here", "_law_things"] []) (gO : mg "_law_of" = some (.ref fO)) (FS : Fun K "_law_signed" "_law_signed" sLSigned fS fdS) (bS : Binds K fdS ["_law_mturned", "_law_body_here"] []) (gS : mg "_law_signed" = some (.ref fS))
    (ml : mg "len" = none) (mr : mg "range" = none) : FnOk P w K mg base CX0 3 f fd ["_law_bag_here", "_law_size_here"] spString := by
  have GP : FnOk P w K mg base CX0 1 fP fdP ["_law_bag_here", "_law_many"] spPull := ok_pull FP ml
  have GO : FnOk P w K mg base CX0 2 fO fdO ["_law_bag_here", "_law_things"] (spOf K) := ok_of FO FP bP gP ml
  have GS : FnOk P w K mg base CX0 1 fS fdS ["_law_mturned", "_law_body_here"] spLSigned := ok_lsigned FS
  refine F.ok scLString (fun vs H Q E h => ?_) (fun cdv A outer s H vs Q E hr h => ?_)
  · obtain ⟨b, l, n, rfl, _⟩ := h
    rfl
  · obtain ⟨b, l, n, rfl, B0, hn, q⟩ := h
    have hr1 : Room 1 _ := hr.mono (by decide)
    refine ⟨_, pss_one (ps_ret (pe_call GS hr1 (by rfl) gS FS.kp bS .nil pass0 (pa_cons (pe_call GP hr1 (by rfl) gP FP.kp bP .nil pass0 (pa_cons (pv 0) (pa_cons pe_int pa_nil))) (pa_cons (pe_join pe_str (pe_lc (own := [("_law_k", 2)]) (g := gName 2) (tt := tYes) rfl scLString.nd (pi_range1 (by rfl) mr (pa_cons (pv 1) pa_nil)) (blkOk_by (own := [("_law_k", 2)]) (N := ["_law_bag_here", "_law_size_here", "_law_k"]) (sc := defScope sLString) (by decide +kernel))
        (fun _ _ _ _ _ => pg_name (i := 2) scLString.nd rfl (Or.inl rfl)) (fun _ _ _ _ _ => pts_nil) (fun _ _ _ _ _ => (pe_call GO hr (by rfl) gO FO.kp bO .nil pass0 (pa_cons (pv 0) (pa_cons pe_str pa_nil)))))) pa_nil)))), ?_⟩
    refine ⟨_, rfl, b, l, 2, rfl, B0, by decide, by decide, fun J d kj BJ d0 d1 => ?_⟩
    refine ⟨⟨_, rfl⟩, _, rfl, _, rfl, by omega, by omega, fun D nD => ?_⟩
    have nDb : D ≠ b := BJ.nb nD
    refine lc_range (lo := 0) (n := ((n : Nat) : Int).toNat) (fun i H' => Kp b J H' ∧ Bag H' b l ∧ ∃ cs : List Nat, H' D = some (.lst (cs.map sig)) ∧ cs.length = i ∧ Al4 cs)
      ⟨Kp.new nD, BJ.new nD, [], upd_same, rfl, fun c hc => absurd hc List.not_mem_nil⟩ ?_ ?_
    · rintro j H' hj ⟨kp, B', cs, hD, hlen, hmem⟩
      refine ⟨rfl, ?_⟩
      refine ⟨_, rfl, b, l, _, (five.map sig), rfl, B', .inr ⟨_, rfl, by rw [txt_five, txt_len]; decide, by rw [txt_five, txt_cps]⟩, by decide, by decide, fun H2 x kp2 B2 hx => ?_⟩
      obtain ⟨c, hc, rfl⟩ := List.mem_map.mp hx
      have hcA : c ∈ Al := (show ∀ c ∈ five, c ∈ Al by decide) c hc
      refine ⟨_, kp2 _ _ nDb hD, by rw [List.length_map, hlen]; exact small1000 (by omega), (kp.trans kp2).put nD, B2.put nDb (BJ.nl nD), cs ++ [c], ?_, by rw [List.length_append, hlen]; rfl, ?_⟩
      · rw [upd_same, List.map_append]
        rfl
      · intro c2 h2
        rcases List.mem_append.mp h2 with h2 | h2
        · exact hmem _ h2
        · rw [List.mem_singleton.mp h2]; exact hcA
    rintro H7 ⟨k7, B7, cs, hD7, hcl, hcm⟩
    have hu : H7 D = some (.lst ((cs.map fun c => txt [c]).map V.str)) := by
      rw [hD7, List.map_map]
      rfl
    refine ⟨Str.ofString "", D, cs.map (fun c => txt [c]), rfl, rfl, .inl (SqL.of hu), ?_, ?_⟩
    · rw [len_ones, txt_empty, txt_len]; simp; omega
    rw [join_sigs]
    refine ⟨_, cs, rfl, small1000 (by omega), ?_⟩
    rw [signed_wd]
    exact q H7 _ (kj.trans k7) B7 ⟨_, cs, rfl, by omega, hcm⟩
end


end T78

namespace T78
open PySem PySem.Spec PyProof.Rows L2 Tm
abbrev sLTab : Stmt := topS 57
abbrev sLTimes : Stmt := topS 58
abbrev sLTAll : Stmt := topS 59
theorem scLTab : FnScope [] [] (defScope sLTab) := ⟨rfl, rfl, rfl, by decide +kernel, rfl, by decide +kernel, by decide +kernel⟩
theorem scLTimes : FnScope ["_law_first", "_law_last", "_law_known", "_law_found", "_law_mturned", "_law_one", "_law_other", "_law_sign"] ["_law_first", "_law_last"] (defScope sLTimes) := ⟨rfl, rfl, rfl, by decide +kernel, rfl, by decide +kernel, by decide +kernel⟩
theorem scLTAll : FnScope ["_law_strings_in", "_law_size_here", "_law_found", "_law_one"] ["_law_strings_in", "_law_size_here"] (defScope sLTAll) := ⟨rfl, rfl, rfl, by decide +kernel, rfl, by decide +kernel, by decide +kernel⟩
section
variable {P : Program} {w : World} {K : PySem.W.Frag} {mg : Str → Option Value} {base : Heap}
theorem ok_ltab {f : Addr} {fd : FuncData} (F : Fun K "_law_table_of_products" "_law_table_of_products" sLTab f fd) : FnOk P w K mg base CX0 1 f fd [] spTab := by
  refine F.ok scLTab (fun vs H Q E h => ?_) (fun cdv A outer s H vs Q E hr h => ?_)
  · obtain ⟨rfl, _⟩ := h
    rfl
  · obtain ⟨rfl, q⟩ := h
    refine ⟨_, pss_one (ps_ret (pe_disp16 (ps := ptabS) (.cons pe_str pe_str (.cons pe_str pe_str (.cons pe_str pe_str (.cons pe_str pe_str (.cons pe_str pe_str (.cons pe_str pe_str (.cons pe_str pe_str (.cons pe_str pe_str (.cons pe_str pe_str (.cons pe_str pe_str (.cons pe_str pe_str (.cons pe_str pe_str (.cons pe_str pe_str (.cons pe_str pe_str (.cons pe_str pe_str (.cons pe_str pe_str (.nil))))))))))))))))) rfl)), fun p np => ?_⟩
    rw [tab_is]
    exact q _ p (same_upd np) np upd_same
theorem ok_ltimes {f fT fY fS : Addr} {fd fdT fdY fdS : FuncData} (F : Fun K "_law_times" "_law_times" sLTimes f fd) (FT : Fun K "_law_table_of_products" "_law_table_of_products" sLTab fT fdT) (bT : Binds K fdT [] []) (gT : mg "_law_table_of_products" = some (.ref fT))
    (FY : Fun K "_law_body" "_law_body" sLBody fY fdY) (bY : Binds K fdY ["_law_text_here"] []) (gY : mg "_law_body" = some (.ref fY)) (FS : Fun K "_law_signed" "_law_signed" sLSigned fS fdS) (bS : Binds K fdS ["_law_mturned", "_law_body_here"] []) (gS : mg "_law_signed" = some (.ref fS))
    (mi : mg "int" = none) (mz : mg "zip" = none) : FnOk P w K mg base CX0 2 f fd ["_law_first", "_law_last"] spTwo := by
  have GT : FnOk P w K mg base CX0 1 fT fdT [] spTab := ok_ltab FT
  have GY : FnOk P w K mg base CX0 1 fY fdY ["_law_text_here"] spLBody := ok_lbody FY
  have GS : FnOk P w K mg base CX0 1 fS fdS ["_law_mturned", "_law_body_here"] spLSigned := ok_lsigned FS
  refine F.ok scLTimes (fun vs H Q E h => ?_) (fun cdv A outer s H vs Q E hr h => ?_)
  · obtain ⟨n, x, y, rfl, _⟩ := h
    rfl
  · obtain ⟨n, x, y, rfl, hn, hx, hy, q⟩ := h
    have hu := hu_of hr
    refine ⟨_, pss_cons (ps_par (i := 2) (j := 3) rfl scLTimes.nd rfl rfl (by decide) rfl rfl (pa_cons (pe_call0 GT hr (by rfl) gT FT.kp bT .nil pass0) (pa_cons pe_str pa_nil)) rfl)
      (pss_cons (ps_set (i := 4) scLTimes.nd rfl (.inl rfl) (pe_op op_add (pe_callTy call_int1 (by rfl) mi boot_int (pa_cons (pe_cmpR op_eq (pe_slice sl_str (pv 0) po_none (po_some pe_int)) pe_str (nomark _)) pa_nil)) (pe_callTy call_int1 (by rfl) mi boot_int (pa_cons (pe_cmpR op_eq (pe_slice sl_str (pv 1) po_none (po_some pe_int)) pe_str (nomark _)) pa_nil))))
      (pss_cons (ps_for PassesOwn.never rfl (pi_zipS (by rfl) mz (pa_cons (pe_call GY hr (by rfl) gY FY.kp bY .nil pass0 (pa_cons (pv 0) pa_nil)) (pa_cons (pe_call GY hr (by rfl) gY FY.kp bY .nil pass0 (pa_cons (pv 1) pa_nil)) pa_nil)))
        (pg_tup rfl (pgs_cons (pg_name (i := 5) scLTimes.nd rfl (.inl rfl)) (pgs_cons (pg_name (i := 6) scLTimes.nd rfl (.inl rfl)) pgs_nil)))
        (pss_cons (ps_set (i := 7) scLTimes.nd rfl (.inl rfl) (pe_dget hu (pv 2) (pe_op op_add_str (pv 5) (pv 6)) (fun _ _ => rfl)))
        (pss_cons (ps_set (i := 3) scLTimes.nd rfl (.inl rfl) (pe_op op_add_str (pv 3) (pe_ix ix_str (pv 7) (pe_un un_neg pe_int) (fun _ _ => rfl))))
        (pss_one (ps_set (i := 4) scLTimes.nd rfl (.inl rfl) (pe_op op_add (pv 4) (pe_callTy call_int1 (by rfl) mi boot_int (pa_cons (pe_cmpR op_eq (pe_slice sl_str (pv 7) po_none (po_some pe_int)) pe_str (nomark _)) pa_nil))))))))
      (pss_one (ps_ret (pe_call GS hr (by rfl) gS FS.kp bS .nil pass0 (pa_cons (pv 4) (pa_cons (pv 3) pa_nil))))))), ?_⟩
    obtain ⟨sx, lx, ax⟩ := hx.len
    obtain ⟨sy, ly, ay⟩ := hy.len
    have tx : (txt x).length ≤ sizeLine := by rw [txt_len]; exact Nat.le_of_lt (small1000 (by omega))
    have ty : (txt y).length ≤ sizeLine := by rw [txt_len]; exact Nat.le_of_lt (small1000 (by omega))
    refine ⟨rfl, fun H1 p s1 np hp => ⟨_, _, rfl, ?_⟩⟩
    refine ⟨_, rfl, 1, rfl, _, rfl, tx, rfl, .inr ⟨_, rfl, _, rfl, 1, rfl, _, rfl, ty, rfl, .inr ⟨_, rfl, _, _, rfl, rfl, ?_⟩⟩⟩
    refine ⟨_, rfl, x, rfl, by omega, _, rfl, y, rfl, by omega, lettersL x, lettersL y, rfl, ?_⟩
    have e0 : (if decide (V.str (cutS (txt x) none (some 1)) = V.str (Str.ofString "-")) = true then (1 : Int) else 0) + (if decide (V.str (cutS (txt y) none (some 1)) = V.str (Str.ofString "-")) = true then (1 : Int) else 0) = ((signL x + signL y : Nat) : Int) := by
      rw [first_is, first_is, bit_sign, bit_sign, Int.natCast_add]
    refine for_it walk_zipS (fun i σ H' => ∃ y5 y6 y7 : Option V, σ = [some (tv x), some (tv y), some (.ref p), some (tv ((zL (lettersL x) (lettersL y)).take i)), some (.int ((signL x + signL y + ((List.zipWith pS (lettersL x) (lettersL y)).take i).sum : Nat) : Int)), y5, y6, y7] ∧ Same H1 H')
      ⟨none, none, none, ?_, fun _ _ h => h⟩ (fun _ _ _ _ _ => trivial) ?_ ?_
    · rw [txt_empty]
      dsimp only
      rw [e0]
      rfl
    · rintro i v σ H2 H3 hi ⟨y5, y6, y7, rfl, s2⟩ ⟨T, c, d, rfl, nT, rfl, hc, hd⟩
      have hca : c ∈ Al := ax c (List.mem_of_getElem? hc)
      have hda : d ∈ Al := ay d (List.mem_of_getElem? hd)
      have pf := p_form c hca d hda
      refine ⟨T, _, rfl, .inl (.inl upd_same), rfl, _, _, rfl, _, _, rfl, rfl, ?_⟩
      have hp3 := (same_upd (o := .tup [sig c, sig d]) nT) _ _ (s2 _ _ hp)
      have bit := bit_sign (pP c d)
      have zp : (txt (pP c d)).length ≤ sizeLine := by rw [txt_len]; exact Nat.le_of_lt (small1000 (by omega))
      have zl := zL_len (as := lettersL x) (bs := lettersL y) (by omega)
      refine ⟨_, rfl, _, rfl, _, rfl, _, _, rfl, rfl, by show 1 + 1 ≤ sizeLine; decide, p, tv (pP c d), rfl, ?_, ?_⟩
      · have e := DGet.k (k := Sum.inr (txt [c, d])) hp3
        rw [tab_at c hca d hda] at e
        have e2 : (V.str ((⟨#[c]⟩ : Str) ++ ⟨#[d]⟩)) = V.str (txt [c, d]) := congrArg V.str (txt_app [c] [d])
        exact (congrArg (fun z => DGet (upd H2 T (.tup [sig c, sig d])) p z (some (tv (pP c d)))) e2).mpr e
      refine ⟨_, rfl, _, rfl, _, rfl, txt (pP c d), _, pL c d, rfl, rfl, zp, by rw [txt_cps]; exact p_last c hca d hda, _, _, rfl, rfl, ?_, ?_⟩
      · rw [txt_len, List.length_take]
        show _ + 1 ≤ sizeLine
        exact small1000 (by omega)
      refine ⟨_, rfl, _, rfl, 1, rfl, _, rfl, zp, rfl, .inr ⟨_, rfl, _, _, rfl, rfl, some (sig c), some (sig d), some (tv (pP c d)), ?_, s2.trans (same_upd nT)⟩⟩
      dsimp only
      rw [first_is, bit, zL_take _ _ hc hd, zS_take _ _ hc hd]
      have e1 : txt ((zL (lettersL x) (lettersL y)).take i) ++ (⟨#[pL c d]⟩ : Str) = txt ((zL (lettersL x) (lettersL y)).take i ++ [pL c d]) := txt_app _ [pL c d]
      have e2 : ((signL x + signL y + ((List.zipWith pS (lettersL x) (lettersL y)).take i).sum : Nat) : Int) + ((signL (pP c d) : Nat) : Int) = ((signL x + signL y + (((List.zipWith pS (lettersL x) (lettersL y)).take i).sum + pS c d) : Nat) : Int) := by
        show _ + ((pS c d : Nat) : Int) = _
        omega
      rw [e1, e2]
      rfl
    · rintro σ H2 ⟨y5, y6, y7, rfl, s2⟩
      have zl := zL_len (as := lettersL x) (bs := lettersL y) (by omega)
      have full : (zL (lettersL x) (lettersL y)).take (min (lettersL x).length (lettersL y).length) = zL (lettersL x) (lettersL y) := List.take_of_length_le (by omega)
      have full2 : (List.zipWith pS (lettersL x) (lettersL y)).take (min (lettersL x).length (lettersL y).length) = List.zipWith pS (lettersL x) (lettersL y) := List.take_of_length_le (by rw [List.length_zipWith]; exact Nat.le_refl _)
      rw [full, full2]
      refine ⟨_, rfl, _, rfl, _, zL (lettersL x) (lettersL y), rfl, small1000 (by omega), ?_⟩
      exact q H2 (s1.trans s2)
theorem ok_ltall {f fM fT fY fS : Addr} {fd fdM fdT fdY fdS : FuncData} (F : Fun K "_law_times_all" "_law_times_all" sLTAll f fd) (FM : Fun K "_law_times" "_law_times" sLTimes fM fdM) (bM : Binds K fdM ["_law_first", "_law_last"] []) (gM : mg "_law_times" = some (.ref fM))
    (FT : Fun K "_law_table_of_products" "_law_table_of_products" sLTab fT fdT) (bT : Binds K fdT [] []) (gT : mg "_law_table_of_products" = some (.ref fT))
    (FY : Fun K "_law_body" "_law_body" sLBody fY fdY) (bY : Binds K fdY ["_law_text_here"] []) (gY : mg "_law_body" = some (.ref fY)) (FS : Fun K "_law_signed" "_law_signed" sLSigned fS fdS) (bS : Binds K fdS ["_law_mturned", "_law_body_here"] []) (gS : mg "_law_signed" = some (.ref fS))
    (mi : mg "int" = none) (mz : mg "zip" = none) : FnOk P w K mg base CX0 3 f fd ["_law_strings_in", "_law_size_here"] (spTAll K) := by
  have GM : FnOk P w K mg base CX0 2 fM fdM ["_law_first", "_law_last"] spTwo := ok_ltimes FM FT bT gT FY bY gY FS bS gS mi mz
  refine F.ok scLTAll (fun vs H Q E h => ?_) (fun cdv A outer s H vs Q E hr h => ?_)
  · obtain ⟨n, a, xss, rfl, _⟩ := h
    rfl
  · obtain ⟨n, a, xss, rfl, ha, hn, few, all, q⟩ := h
    refine ⟨_, pss_cons (ps_set (i := 2) scLTAll.nd rfl (.inl rfl) (pe_op op_times pe_str (pv 1)))
      (pss_cons (ps_for PassesOwn.never rfl (pi_list (pv 0)) (pg_name (i := 3) scLTAll.nd rfl (.inl rfl)) (pss_one (ps_set (i := 2) scLTAll.nd rfl (.inl rfl) (pe_call GM hr (by rfl) gM FM.kp bM .nil pass0 (pa_cons (pv 2) (pa_cons (pv 3) pa_nil))))))
      (pss_one (ps_ret (pv 2)))), ?_⟩
    refine ⟨_, rfl, 49, n, (by decide +kernel), rfl, by omega, ?_⟩
    have len : (xss.map tv).length = xss.length := List.length_map ..
    refine ⟨_, rfl, a, rfl, ⟨_, ha⟩, ?_⟩
    refine for_it (walk_list (xs := xss.map tv)) (fun i σ H' => ∃ y, σ = [some (.ref a), some (.int ((n : Nat) : Int)), some (tv ((xss.take i).foldl two (List.replicate n 49))), y] ∧ Same H H') ⟨none, rfl, fun _ _ h => h⟩ (fun i σ H' _ ⟨_, _, s1⟩ => s1.seq ha) ?_ ?_
    · rintro i v σ H1 H2 hi ⟨y, rfl, s1⟩ ⟨rfl, hv⟩
      rw [len] at hi
      rw [List.getElem?_map, List.getElem?_eq_getElem hi] at hv
      have ev : v = tv xss[i] := (Option.some.inj hv).symm
      subst ev
      have part : Sn n ((xss.take i).foldl two (List.replicate n 49)) := Sn.fold (Sn.one n) fun y hy => all y (List.mem_of_mem_take hy)
      refine ⟨_, rfl, _, rfl, n, _, xss[i], rfl, hn, part, all _ (List.getElem_mem hi), fun H3 s3 => ⟨some (tv xss[i]), ?_, s1.trans s3⟩⟩
      rw [List.take_succ_eq_append_getElem hi, fold_snoc]
      rfl
    · rintro σ H1 ⟨y, rfl, s1⟩
      rw [len, List.take_length]
      exact ⟨_, rfl, q H1 s1⟩
end


end T78

/-! try with several except clauses that give the exception a name -/
namespace Tm
open PySem PySem.Spec PyProof.Rows L2
section
variable {X : Cx} {pins : List (Addr × Obj)} {σ : L2.St} {H : Hp} {a : Addr} {cls : Value} {d : Option Addr} {s : Shared}
/-- the exception at a has been caught in this frame, nothing has been done with it -/
def InHand (X : Cx) (pins : List (Addr × Obj)) (σ : L2.St) (H : Hp) (a : Addr) (cls : Value) (d : Option Addr) (s : Shared) : Prop :=
  ∃ (B : Heap) (s0 : Shared), Inv X pins σ H s0 ∧ (∀ b o, s0.heap.get? b = some o → b ∉ frs X.stack → B.get? b = some o) ∧ s0.heap.UpToSlots s.heap ∧ HandSPX.FlyingZ B X.stack a (Zc cls d) s.heap ∧ H a = none ∧ s.os = s0.os ∧ AllBare s.gens
theorem InHand.inv (c : InHand X pins σ H a cls d s) : Inv X pins σ H s := by
  obtain ⟨B, s0, inv, ground, slots, fly, _, os, bare⟩ := c
  exact inv.landed ground fly.1 slots os bare
theorem InHand.new (c : InHand X pins σ H a cls d s) : H a = none := by
  obtain ⟨_, _, _, _, _, _, n, _⟩ := c
  exact n
/-- the suite of a clause may begin -/
theorem InHand.suite (c : InHand X pins σ H a cls d s) (top : X.stack = X.env :: X.outer) (fr : X.env.frame = some X.env.locals) :
    ∃ oe : Obj, s.heap.get? a = some oe ∧ Zc cls d oe ∧ (∃ vs, oe.data = .fields vs) ∧ Inv (X.suite a ((a, oe) :: (X.pn ++ pins))) [] σ H s := by
  have inv := c.inv
  obtain ⟨B, s0, _, _, _, fly, new, _, _⟩ := c
  obtain ⟨oe, vs, there, is, dat⟩ := fly.there
  have off : a ∉ frs X.stack := fun hm => by
    obtain ⟨_, o2, there2, other⟩ := fly.2.2.1.mem hm
    rw [there] at there2
    cases there2
    exact other _ dat
  have offL : a ≠ X.env.locals := fun e => off (by
    rw [top]
    exact List.mem_filterMap.mpr ⟨X.env, List.mem_cons_self, by rw [fr, e]⟩)
  have offF : a ∉ X.fs := fun hm => off (by
    obtain ⟨env, he, q⟩ := List.mem_filterMap.mp hm
    rw [top]
    exact List.mem_filterMap.mpr ⟨env, List.mem_cons_of_mem _ he, q⟩)
  exact ⟨oe, there, is, ⟨vs, dat⟩, inv.suite there dat new offL offF⟩
theorem InHand.again {M : Model} {A : Around} {E : Value → Shared → Prop} {Q : Unit → Shared → Prop} (c : InHand X pins σ H a cls d s) (next : ∀ s', InHand X pins σ H a cls d s' → Q () s') : wpAny M A (setFlight (.ref a) none) Q E s := by
  obtain ⟨B, s0, inv, ground, slots, fly, new, os, bare⟩ := c
  refine HandSPX.lands_againZ fly ?_
  intro h fly2 slots2
  exact next _ ⟨B, s0, inv, ground, slots.trans slots2, fly2, new, os, bare⟩
end
/-- the name of the clause is empty behind its suite -/
def nameless (i : Nat) (D : Ends) : Ends := { nx := fun σ H => D.nx (σ.set i none) H, rt := D.rt, bk := fun σ H => D.bk (σ.set i none) H, ct := fun σ H => D.ct (σ.set i none) H }
abbrev Clause := Value × (Addr → Value → Option Addr → TS)
def wNamed (K : PySem.W.Frag) (i : Nat) (Wout : WX) (D : Ends) : List Clause → WX
  | [] => Wout
  | c :: r => fun cls d σ H => ∃ b, PySem.W.exmOne K cls c.1 = some b ∧ (b = true → ∀ a, H a = none → c.2 a cls d (nameless i D) (σ.set i (some (.ref a))) H) ∧ (b = false → wNamed K i Wout D r cls d σ H)
inductive Clauses (X : Cx) (n : Str) : List ExceptHandler → List Clause → Prop
  | nil : Clauses X n [] []
  | cons {x : Str} {c : Value} {ts : Addr → Value → Option Addr → TS} {st : Stmt} {more : List Stmt} {p q : Pos} {hds : List ExceptHandler} {l : List Clause} (named : Names X x c)
      (suite : ∀ (a : Addr) (oe : Obj) (cls : Value) (d : Option Addr) (pn : List (Addr × Obj)), Zc cls d oe → (∃ vs, oe.data = .fields vs) → PSs (X.suite a ((a, oe) :: pn)) (st :: more) (ts a cls d)) (rest : Clauses X n hds l) :
      Clauses X n (.ExceptHandler (some (.Name x p)) (some n) (st :: more) q :: hds) ((c, ts) :: l)
section
variable {X : Cx} {n : Str} {i : Nat} {Wout : WX} {pins : List (Addr × Obj)} {D : Ends}
/-- the clauses are asked one behind the other -/
theorem clauses_run (top : X.stack = X.env :: X.outer) (fr : X.env.frame = some X.env.locals) (nd : X.N.Nodup) (slot : X.N[i]? = some n) (loc : X.env.kindOf n = some .local) (takes : Takes X Wout) (ok : X.Ok) {a : Addr} :
    ∀ {hds : List ExceptHandler} {l : List Clause}, Clauses X n hds l → ∀ {σ : L2.St} {H : Hp} {cls : Value} {d : Option Addr} {s : Shared}, InHand X pins σ H a cls d s → wNamed X.K i Wout D l cls d σ H →
      wpAny (model X.prog X.w) X.A (handleBy (.ref a) X.env hds) (SP X pins D) X.xe s := by
  intro hds l cl
  induction cl with
  | nil =>
    intro σ H cls d s hand wish
    apply wpAny_handleBy_nil
    obtain ⟨B, s0, inv, ground, slots, fly, new, os, bare⟩ := hand
    obtain ⟨_, _, _, oe, vs, T, oT, ts, there, _, dat, cell, _⟩ := id fly
    have out : wpAny (model X.prog X.w) X.A (setFlight (.ref a) X.env.frame) (fun _ s4 => wpAny (model X.prog X.w) X.A (throw (.ref a) : Sem Flow) (SP X pins D) X.xe s4) X.xe s := by
      rw [fr]
      refine HandSPX.setFlight_upZ fly ?_
      intro h held slots2
      apply wpAny_throw
      apply takes
      exact ⟨a, B, s0, pins, σ, H, cls, d, rfl, inv, ground, slots.trans slots2, Or.inr (Or.inr held), new, os, bare, wish⟩
    unfold PySem.passOn
    apply wpAny_bind
    refine wpAny_field there dat cell ?_
    have some_ : ¬ ((Value.ref T == Value.none) = true) := by simp
    rw [if_neg some_]
    first
      | exact wpAny_bind out
      | exact wpAny_bind (wpAny_pure (wpAny_bind out))
  | @cons x c ts st more p q hds2 l2 named suite rest ih =>
    intro σ H cls d s hand wish
    obtain ⟨b, match_, yes, no⟩ := wish
    obtain ⟨oe, there, is, flds, inS⟩ := hand.suite top fr
    apply wpAny_handleBy_cons _ (by intro z; cases z)
    apply codeAny_handlers_test
    have typed : PySem.W.Looks (model X.prog X.w) s.heap (typeOf (.ref a)) cls := by
      intro A Q E s2 keeps goal
      exact wpAny_typeOf_ref (keeps _ _ there) (by rw [is.1]; exact goal)
    have matched := PySem.W.exm_one (M := model X.prog X.w) hand.inv.kIn typed match_
    have look : ∀ {Q : Value → Shared → Prop} {E : Value → Shared → Prop}, Q c s → wpAny (model X.prog X.w) (X.A.mark (some (.ref a))) (eval (.Name x p) X.env) Q E s := by
      intro Q E goal
      rcases named with ⟨glob, plain, own | ⟨none_, boot, plain2⟩⟩
      · exact ld_glob (X := X.suite a ((a, oe) :: (X.pn ++ pins))) inS glob own goal plain
      · exact ld_blt (X := X.suite a ((a, oe) :: (X.pn ++ pins))) inS glob none_ boot goal plain2 plain
    apply look
    apply matched.here
    cases b with
    | false => exact ih hand (no rfl)
    | true =>
      apply codeAny_handlers_suite_as
      apply hand.again
      intro s2 hand2
      obtain ⟨oe2, there2, is2, flds2, inS2⟩ := hand2.suite top fr
      refine store_ok (X := X.suite a ((a, oe2) :: (X.pn ++ pins))) (v := .ref a) inS2 nd slot (.inl loc) rfl ?_ (.inr loc)
      intro s3 inS3
      apply wpAny_mono ((suite a oe2 cls d (X.pn ++ pins) is2 flds2).run [] s3 _ H _ inS3 (yes rfl a hand.new)) _ (fun _ _ z => z.elim)
      intro flow s4 told
      have leave : ∀ {σ4 : L2.St} {H4 : Hp} {Q : Shared → Prop}, Inv (X.suite a ((a, oe2) :: (X.pn ++ pins))) [] σ4 H4 s4 → (∀ s5, Inv X pins (σ4.set i none) H4 s5 → Q s5) →
          wpAny (model X.prog X.w) X.A (do bindName X.env n .none; unbindBehindTheSuite X.env n q) (fun _ s5 => Q s5) X.xe s4 := fun inv4 goal => gone_ok (inv4.unsuite ok) nd slot loc goal
      match flow, told with
      | .next, ⟨σ4, H4, inv4, goal⟩ => exact leave inv4 fun s5 inv5 => ⟨_, _, inv5, goal⟩
      | .brk, ⟨σ4, H4, inv4, goal⟩ => exact leave inv4 fun s5 inv5 => ⟨_, _, inv5, goal⟩
      | .cont, ⟨σ4, H4, inv4, goal⟩ => exact leave inv4 fun s5 inv5 => ⟨_, _, inv5, goal⟩
      | .ret u, ⟨v4, σ4, H4, inv4, rel, goal⟩ => exact leave inv4 fun s5 inv5 => ⟨_, _, _, inv5, rel, goal⟩
theorem ps_try_named {body : List Stmt} {hd : ExceptHandler} {hds : List ExceptHandler} {l : List Clause} {pos : Pos} {tb : WX → TS} (top : X.stack = X.env :: X.outer) (fr : X.env.frame = some X.env.locals) (nd : X.N.Nodup) (slot : X.N[i]? = some n) (loc : X.env.kindOf n = some .local) (takes : Takes X Wout)
    (within : ∀ (W : WX) (pn : List (Addr × Obj)) (xe : Value → Shared → Prop), Takes (X.tr pn xe) W → PassesOwn (model X.prog X.w) X.A X.env xe → PSs (X.tr pn xe) body (tb W)) (cl : Clauses X n (hd :: hds) l) :
    PS X (.Try body (hd :: hds) [] [] pos) (fun D σ H => tb (wNamed X.K i Wout D l) D σ H) where
  run pins s σ H D inv ask := by
    have ok := inv.ok
    apply wpAny_Try_except
    apply wpAny_mono ((within (wNamed X.K i Wout D l) (X.pn ++ pins) (fun e s1 => wpAny (model X.prog X.w) X.A (noteFrame e X.env) (fun _ s2 => wpAny (model X.prog X.w) X.A (setFlight e none) (fun _ s3 => wpAny (model X.prog X.w) X.A (handleBy e X.env (hd :: hds)) (SP X pins D) X.xe s3) X.xe s2) X.xe s1) ?caught PassesOwn.looking).run [] s σ H D (inv.toTry _) ask) ?done (fun _ _ raised => raised)
    case caught =>
      rintro u s1 ⟨a, B, s0, pins1, σ1, H1, cls, d, rfl, inv1, ground, slots, sky, new, os, bare, wish⟩
      have inv0 : Inv X pins σ1 H1 s0 := inv1.ofTry ok
      have sky1 : Sky B (X.env :: X.outer) a (Zc cls d) X.env.locals s1.heap := top ▸ sky
      refine Sky.land Zc.steady (by rw [ok.frames, top]) fr sky1 ?_
      intro h fly slots2
      refine clauses_run top fr nd slot loc takes ok cl (a := a) ⟨B, s0, inv0, ground, slots.trans slots2, ?_, new, os, bare⟩ wish
      rw [top]
      exact fly
    case done =>
      intro flow s1 told
      match flow, told with
      | .next, ⟨σ1, H1, inv1, goal⟩ => exact wpAny_execs_nil ⟨σ1, H1, inv1.ofTry ok, goal⟩
      | .brk, ⟨σ1, H1, inv1, goal⟩ => exact ⟨σ1, H1, inv1.ofTry ok, goal⟩
      | .cont, ⟨σ1, H1, inv1, goal⟩ => exact ⟨σ1, H1, inv1.ofTry ok, goal⟩
      | .ret u, ⟨v, σ1, H1, inv1, rel, goal⟩ => exact ⟨v, σ1, H1, inv1.ofTry ok, rel, goal⟩
end
end Tm

/-! an exception that is in hand: its fields, and a def that is given it -/
namespace Tm
open PySem PySem.Spec PyProof.Rows L2 L2H
/-- e.f, e the exception at a, of the class cls, with the dict d -/
def tXfA (K : PySem.W.Frag) (a : Addr) (cls : Value) (d : Option Addr) (f : Str) (te : TE) : TE := fun σ H Q => te σ H fun x H1 => x = .ref a ∧ ∃ (C dd : Addr) (fs : List (Str × V)) (v : V), cls = .ref C ∧ XfC K C ∧ PySem.W.findIn K (.ref C) f = some none ∧ d = some dd ∧ H1 dd = some (.xd fs) ∧ fs.lookup f = some v ∧ Q v H1
theorem pe_pinned {X : Cx} {a : Addr} {oe : Obj} {cls : Value} {d : Option Addr} {e : Expr} {te : TE} {pos : Pos} {f : Str} (pin : (a, oe) ∈ X.pn) (is : Zc cls d oe) (flds : ∃ vs, oe.data = .fields vs) (he : PE X e te)
    (plain : attributeBase e f X.env (eval e X.env) = eval e X.env := by rfl) : PE X (.Attribute e f pos) (tXfA X.K a cls d f te) where
  run pins s σ H Q inv ask := by
    apply attr_of plain
    apply wpAny_mono (he.run pins s σ H _ inv ask) _ (fun _ _ raised => raised)
    rintro u s1 ⟨x, H1, inv1, rel, rfl, C, dd, fs, v, rfl, T, none_, rfl, dict, field, goal⟩
    obtain rfl : u = Value.ref a := rel
    obtain ⟨there, _⟩ := inv1.pin (a, oe) (List.mem_append_left _ pin)
    obtain ⟨vs, dat⟩ := flds
    obtain ⟨m, names, rels⟩ : ObjOk X.prog X.w H1 s1.heap dd (.xd fs) := inv1.hok dd _ dict
    obtain ⟨od, at_d, look⟩ := lookIn_ns names
    have got := rels f
    rw [field] at got
    obtain ⟨w, hw, rw_⟩ := RelO.some_of got
    have inst : PySem.W.InstAt s1.heap a oe C (some od) := by
      refine ⟨there, is.1, ?_, ?_⟩
      · unfold PySem.W.notCls
        rw [dat] <;> rfl
      · rw [is.2]
        exact at_d
    have own := PySem.W.findObj_own T.hdC none_ rfl (by rw [look, hw])
    exact HandSPX.exc_get inv1.kIn inst T.ga T.gg T.exC own (handed_of rw_) ⟨v, H1, inv1.tok _, rw_, goal⟩
/-- a def is run while the exception at a is handled; nothing that is raised leaves it -/
theorem run_handled {P : Program} {w : World} {K : PySem.W.Frag} {mg : Str → Option Value} {base : Heap} {k : Nat} {f : Addr} {name qual : Str} {params : Arguments} {body : List Stmt} {scope : Scope} {dV kV doc pm cdv ct oc : Value} {an od : Option Addr} {osl : Array (Option Value)} {N ps : List Str}
    (written : K.lookup f = some ⟨oc, od, .func (PySem.W.fnOf name qual params body scope dV kV doc pm an cdv ct), osl⟩) (code : PySem.W.codeIn K cdv qual = true) (S : FnScope N ps scope) {A : Around} {outer : List Env} {s : Shared} {H : Hp} {args : Args} {us : List Value} {vs : List V} {Q : VK} {E : XK} {p : Addr × Obj}
    (room : RoomH (k + 1) A) (pin : PinOk outer H s p) (around : Env0 P w K mg base A outer s H) (binds : BindsTo s (PySem.W.fnOf name qual params body scope dV kV doc pm an cdv ct) args (ps.zip us)) (rel : Vals vs us) (len : vs.length = ps.length)
    (walk : RoomH k (A.deeper (envOfC qual scope s.heap.objs.size f cdv)) → ∃ t, PSs (cxH CX0 P w K mg base N qual scope f cdv A outer s H E p) body t ∧ t { nx := fun _ H' => Q .non H', rt := Q } (L2.start N vs) H) :
    codeAny (model P w) A (.call (.ref f) args) (CR CX0 outer P w H s Q E) s := by
  have stays : ∀ b o, base.get? b = some o → s.heap.get? b = some o := fun b o e => (around.bs b o e).1
  have kin : K.In s.heap := around.mod.kin.keeps stays
  apply codeAny_call_function room.depth (kin _ _ written) rfl S.co S.gen rfl (PySem.W.codeRec_of kin code)
  apply binds
  apply wpAny_newFunctionEnv_cells S.kind
  · rintro ⟨y, v⟩ hy
    rcases S.par y (List.of_mem_zip hy).1 with own | cell
    · exact Or.inl own
    · exact Or.inr ⟨cell, PySem.W.cellsFrom_some _ _ _ (.inl cell)⟩
  · rintro env rfl s1 entered
    refine ⟨(around.mod.nolimit.keeps stays).keeps entered.toInCall.keep, codeAny_func ?_⟩
    obtain ⟨t, does, goal⟩ := walk (room.deeper _)
    have inv := inv_startH (CX := CX0) (E := E) S pin around len rel entered
    apply wpAny_mono (does.run [] s1 (L2.start N vs) H _ inv goal) _ (fun _ _ raised => raised)
    intro flow s2 told
    match flow, told with
    | .ret u, ⟨v, σ2, H2, inv2, rv, q⟩ => exact ⟨v, H2, inv2.os, inv2.bare, inv2.base, inv2.hok, rv, q⟩
    | .next, ⟨σ2, H2, inv2, q⟩ => exact ⟨V.non, H2, inv2.os, inv2.bare, inv2.base, inv2.hok, rfl, q⟩
    | .brk, ⟨_, _, _, q⟩ => exact q.elim
    | .cont, ⟨_, _, _, q⟩ => exact q.elim
/-- g(e) in the suite of a clause, e the exception itself -/
theorem pe_given {X : Cx} {a : Addr} {oe : Obj} {pn : List (Addr × Obj)} {k : Nat} {f : Addr} {x y : Str} {params : Arguments} {body : List Stmt} {scope : Scope} {kV doc pm cdv ct oc : Value} {an od : Option Addr} {osl : Array (Option Value)} {N : List Str} {e : Expr} {te : TE} {q pos : Pos} {sp : Hp → VK → Prop}
    (written : X.K.lookup f = some ⟨oc, od, .func (PySem.W.fnOf x x params body scope .none kV doc pm an cdv ct), osl⟩) (code : PySem.W.codeIn X.K cdv x = true) (S : FnScope N [y] scope) (binds : L2.Binds X.K (PySem.W.fnOf x x params body scope .none kV doc pm an cdv ct) [y] [])
    (glob : Gl (X.suite a ((a, oe) :: pn)) x) (holds : X.mg x = some (.ref f)) (kept : PySem.W.keepIn X.K (.ref f) = true) (room : RoomH (k + 1) (X.suite a ((a, oe) :: pn)).A)
    (walk : ∀ (outer : List Env) (s : Shared) (H : Hp) (Q : VK), RoomH k ((X.suite a ((a, oe) :: pn)).A.deeper (envOfC x scope s.heap.objs.size f cdv)) → sp H Q → ∃ t, PSs (cxH CX0 X.prog X.w X.K X.mg X.base N x scope f cdv (X.suite a ((a, oe) :: pn)).A outer s H (fun _ _ _ => False) (a, oe)) body t ∧ t { nx := fun _ H' => Q .non H', rt := Q } (L2.start N [.ref a]) H)
    (he : PE (X.suite a ((a, oe) :: pn)) e te) (plainName : (x == ("__debug__" : Str)) = false := by decide) (first : starEach [e] X.env = [(false, eval e X.env)] := by rfl) :
    PE (X.suite a ((a, oe) :: pn)) (.Call (.Name x q) [e] [] pos) (fun σ H Q => te σ H fun v H1 => [v] = [V.ref a] ∧ sp H1 Q) where
  run pins s σ H Q inv ask := by
    apply wpAny_Call_Name_kw
    apply ld_glob inv glob holds _ plainName
    apply PySem.W.callWith_K (h₀ := X.base) inv.ok.mod.kin kept _ first (by rfl)
    have many : PA (X.suite a ((a, oe) :: pn)) [e] (tCons te tNil) := pa_cons he pa_nil (hs := first)
    apply wpAny_mono (many.run pos pins s σ H (fun vs H1 => vs = [.ref a] ∧ sp H1 Q) inv ask) _ (fun _ _ raised => raised)
    rintro us s1 ⟨vs, H1, inv1, rel, rfl, goal⟩
    refine ⟨inv1.kIn, ?_⟩
    obtain ⟨there, free, offL, offF, nocell⟩ := inv1.pin (a, oe) (List.mem_append_left _ List.mem_cons_self)
    have pin : PinOk (X.suite a ((a, oe) :: pn)).stack H1 s1 (a, oe) := by
      refine ⟨there, free, fun hm => ?_, nocell⟩
      rcases List.mem_cons.mp (inv1.stkSub a hm) with z | z
      · exact offL z
      · exact offF z
    have len : us.length = 1 := rel.length.symm
    have to := binds s1 us inv1.kIn (by rw [List.append_nil]; exact len)
    rw [List.append_nil] at to
    apply wpAny_call
    apply codeAny_mono (run_handled (k := k) (E := fun _ _ _ => False) written code S room pin inv1.env0 to rel rfl (fun room2 => walk _ _ _ Q room2 goal))
    intro r s2 told
    match r, told with
    | .error _, told => exact (show False from told).elim
    | .ok (.ret u), told => exact inv1.after told
    | .ok .next, told => exact (show False from told).elim
    | .ok .brk, told => exact (show False from told).elim
    | .ok .cont, told => exact (show False from told).elim
/-! ### which field goes with which code -/
def nodeCodes : List Str := ["invalidnode", "invalidmark", "nodetaken", "notbare", "invaliddrawing", "unknownnode"]
def nameCodes : List Str := ["invalidname", "invalidedge", "edgetaken", "invalidwebname", "nametaken", "unknownedge", "unknownweb"]
def indexCodes : List Str := ["invalidstep", "invalidcommand"]
def limitCodes : List Str := ["limitexceeded", "invalidlimit"]
def attrOf (c : Str) : Option Str :=
  if c ∈ nodeCodes then some "node" else if c ∈ nameCodes then some "name" else if c ∈ indexCodes then some "index" else if c ∈ limitCodes then some "limit"
  else if c = "invalidword" then some "position" else if c = "invalidstring" then some "value" else if c = "invaliddocument" then some "line" else none
def FieldIs (K : PySem.W.Frag) (C : Addr) (fs : List (Str × V)) (v : V) : Option Str → Prop
  | some f => PySem.W.findIn K (.ref C) f = some none ∧ fs.lookup f = some v
  | none => v = .non
theorem in_strs (c : Str) (zs : List Str) : inV (.str c) (zs.map V.str) = decide (c ∈ zs) := by
  unfold inV
  rw [List.any_map]
  induction zs with
  | nil => rfl
  | cons z r ih =>
    rw [List.any_cons, ih]
    by_cases h : z = c
    · subst h
      simp [eqV]
    · have h2 : ¬ c = z := fun e => h e.symm
      simp [eqV, h, h2]
/-- what is known of an exception in hand -/
structure ExcIs (K : PySem.W.Frag) (cls : Value) (d : Option Addr) (H : Hp) (c : Str) (v : V) : Prop where
  ex : ∃ (C dd : Addr) (fs : List (Str × V)), cls = .ref C ∧ XfC K C ∧ PySem.W.findIn K (.ref C) "code" = some none ∧ d = some dd ∧ H dd = some (.xd fs) ∧ fs.lookup ("code" : Str) = some (.str c) ∧ FieldIs K C fs v (attrOf c)
theorem ExcIs.same {K : PySem.W.Frag} {cls : Value} {d : Option Addr} {H H' : Hp} {c : Str} {v : V} (e : ExcIs K cls d H c v) (s : Same H H') : ExcIs K cls d H' c v := by
  obtain ⟨C, dd, fs, h1, h2, h3, h4, h5, h6⟩ := e.ex
  exact ⟨C, dd, fs, h1, h2, h3, h4, s _ _ h5, h6⟩
def spFieldE (K : PySem.W.Frag) (cls : Value) (d : Option Addr) : Hp → VK → Prop := fun H Q => ∃ (c : Str) (v : V), ExcIs K cls d H c v ∧ ∀ H', Same H H' → Q v H'
end Tm

namespace T78
open PySem PySem.Spec PyProof.Rows L2 Tm
open L2H
abbrev sField : Stmt := topS 49
theorem scField : FnScope ["_law_e"] ["_law_e"] (defScope sField) := ⟨rfl, rfl, rfl, by decide +kernel, rfl, by decide +kernel, by decide +kernel⟩
section
variable {P : Program} {w : World} {K : PySem.W.Frag} {mg : Str → Option Value} {base : Heap}
theorem walk_field {f : Addr} {cdv : Value} {A : Around} {outer : List Env} {s : Shared} {H : Hp} {Q : VK} {a : Addr} {oe : Obj} {cls : Value} {d : Option Addr} (is : Zc cls d oe) (flds : ∃ vs, oe.data = .fields vs) (told : spFieldE K cls d H Q) :
    ∃ t, PSs (cxH CX0 P w K mg base ["_law_e"] "_law_field" (defScope sField) f cdv A outer s H (fun _ _ _ => False) (a, oe)) (defBody sField) t ∧ t { nx := fun _ H' => Q .non H', rt := Q } (L2.start ["_law_e"] [.ref a]) H := by
  obtain ⟨c, v, ex, q⟩ := told
  have pin : (a, oe) ∈ (cxH CX0 P w K mg base ["_law_e"] "_law_field" (defScope sField) f cdv A outer s H (fun _ _ _ => False) (a, oe)).pn := List.mem_cons_self
  refine ⟨_, pss_cons (ps_if (pt_cmpR op_in_seq (pe_pinned pin is flds (pv 0)) (pe_lst (pa_cons pe_str (pa_cons pe_str (pa_cons pe_str (pa_cons pe_str (pa_cons pe_str (pa_cons pe_str pa_nil))))))) (by rfl)) (pss_one (ps_ret (pe_pinned pin is flds (pv 0)))) pss_nil)
    (pss_cons (ps_if (pt_cmpR op_in_seq (pe_pinned pin is flds (pv 0)) (pe_lst (pa_cons pe_str (pa_cons pe_str (pa_cons pe_str (pa_cons pe_str (pa_cons pe_str (pa_cons pe_str (pa_cons pe_str pa_nil)))))))) (by rfl)) (pss_one (ps_ret (pe_pinned pin is flds (pv 0)))) pss_nil)
    (pss_cons (ps_if (pt_cmpR op_in_seq (pe_pinned pin is flds (pv 0)) (pe_lst (pa_cons pe_str (pa_cons pe_str pa_nil))) (by rfl)) (pss_one (ps_ret (pe_pinned pin is flds (pv 0)))) pss_nil)
    (pss_cons (ps_if (pt_cmpR op_in_seq (pe_pinned pin is flds (pv 0)) (pe_lst (pa_cons pe_str (pa_cons pe_str pa_nil))) (by rfl)) (pss_one (ps_ret (pe_pinned pin is flds (pv 0)))) pss_nil)
    (pss_cons (ps_if (pt_cmpR op_eq (pe_pinned pin is flds (pv 0)) pe_str (nomark _)) (pss_one (ps_ret (pe_pinned pin is flds (pv 0)))) pss_nil)
    (pss_cons (ps_if (pt_cmpR op_eq (pe_pinned pin is flds (pv 0)) pe_str (nomark _)) (pss_one (ps_ret (pe_pinned pin is flds (pv 0)))) pss_nil)
    (pss_one (ps_ret (pe_ifExp (pt_cmpR op_eq (pe_pinned pin is flds (pv 0)) pe_str (nomark _)) (pe_pinned pin is flds (pv 0)) pe_non)))))))), ?_⟩
  obtain ⟨C, dd, fs, ec, T, noC, ed, hdd, hc, hf⟩ := ex.ex
  -- one test of the code against a list of texts
  have inL : ∀ (c : Str) (zs : List Str), (if false = true then !inV (.str c) (zs.map V.str) else inV (.str c) (zs.map V.str)) = decide (c ∈ zs) := fun c zs => by rw [in_strs]; rfl
  unfold attrOf at hf
  have s0 : Same H H := Same.refl H
  refine ⟨_, rfl, rfl, C, dd, fs, _, ec, T, noC, ed, s0 _ _ hdd, hc, (by show 6 ≤ sizeLine; decide), fun l1 n1 => ⟨l1, _, rfl, .inl (SqL.of upd_same), rfl, rfl, _, rfl, ?_⟩⟩
  have s1 := s0.trans (same_upd (o := .lst (nodeCodes.map V.str)) n1)
  by_cases h1 : c ∈ nodeCodes
  · rw [if_pos h1] at hf
    refine ifT ((inL c nodeCodes).trans (decide_eq_true h1)) ?_
    exact ⟨_, rfl, rfl, C, dd, fs, _, ec, T, hf.1, ed, s1 _ _ hdd, hf.2, q _ s1⟩
  rw [if_neg h1] at hf
  refine ifF ((inL c nodeCodes).trans (decide_eq_false h1)) ?_
  refine ⟨_, rfl, rfl, C, dd, fs, _, ec, T, noC, ed, s1 _ _ hdd, hc, (by show 7 ≤ sizeLine; decide), fun l2 n2 => ⟨l2, _, rfl, .inl (SqL.of upd_same), rfl, rfl, _, rfl, ?_⟩⟩
  have s2 := s1.trans (same_upd (o := .lst (nameCodes.map V.str)) n2)
  by_cases h2 : c ∈ nameCodes
  · rw [if_pos h2] at hf
    refine ifT ((inL c nameCodes).trans (decide_eq_true h2)) ?_
    exact ⟨_, rfl, rfl, C, dd, fs, _, ec, T, hf.1, ed, s2 _ _ hdd, hf.2, q _ s2⟩
  rw [if_neg h2] at hf
  refine ifF ((inL c nameCodes).trans (decide_eq_false h2)) ?_
  refine ⟨_, rfl, rfl, C, dd, fs, _, ec, T, noC, ed, s2 _ _ hdd, hc, (by show 2 ≤ sizeLine; decide), fun l3 n3 => ⟨l3, _, rfl, .inl (SqL.of upd_same), rfl, rfl, _, rfl, ?_⟩⟩
  have s3 := s2.trans (same_upd (o := .lst (indexCodes.map V.str)) n3)
  by_cases h3 : c ∈ indexCodes
  · rw [if_pos h3] at hf
    refine ifT ((inL c indexCodes).trans (decide_eq_true h3)) ?_
    exact ⟨_, rfl, rfl, C, dd, fs, _, ec, T, hf.1, ed, s3 _ _ hdd, hf.2, q _ s3⟩
  rw [if_neg h3] at hf
  refine ifF ((inL c indexCodes).trans (decide_eq_false h3)) ?_
  refine ⟨_, rfl, rfl, C, dd, fs, _, ec, T, noC, ed, s3 _ _ hdd, hc, (by show 2 ≤ sizeLine; decide), fun l4 n4 => ⟨l4, _, rfl, .inl (SqL.of upd_same), rfl, rfl, _, rfl, ?_⟩⟩
  have s4 := s3.trans (same_upd (o := .lst (limitCodes.map V.str)) n4)
  by_cases h4 : c ∈ limitCodes
  · rw [if_pos h4] at hf
    refine ifT ((inL c limitCodes).trans (decide_eq_true h4)) ?_
    exact ⟨_, rfl, rfl, C, dd, fs, _, ec, T, hf.1, ed, s4 _ _ hdd, hf.2, q _ s4⟩
  rw [if_neg h4] at hf
  refine ifF ((inL c limitCodes).trans (decide_eq_false h4)) ?_
  refine ⟨_, rfl, rfl, C, dd, fs, _, ec, T, noC, ed, s4 _ _ hdd, hc, rfl, _, rfl, ?_⟩
  by_cases h5 : c = "invalidword"
  · rw [if_pos h5] at hf
    refine ifT (decide_eq_true (by rw [h5])) ?_
    exact ⟨_, rfl, rfl, C, dd, fs, _, ec, T, hf.1, ed, s4 _ _ hdd, hf.2, q _ s4⟩
  rw [if_neg h5] at hf
  refine ifF (decide_eq_false (fun e => h5 (V.str.inj e))) ?_
  refine ⟨_, rfl, rfl, C, dd, fs, _, ec, T, noC, ed, s4 _ _ hdd, hc, rfl, _, rfl, ?_⟩
  by_cases h6 : c = "invalidstring"
  · rw [if_pos h6] at hf
    refine ifT (decide_eq_true (by rw [h6])) ?_
    exact ⟨_, rfl, rfl, C, dd, fs, _, ec, T, hf.1, ed, s4 _ _ hdd, hf.2, q _ s4⟩
  rw [if_neg h6] at hf
  refine ifF (decide_eq_false (fun e => h6 (V.str.inj e))) ?_
  refine ⟨_, rfl, rfl, C, dd, fs, _, ec, T, noC, ed, s4 _ _ hdd, hc, rfl, _, rfl, ?_⟩
  by_cases h7 : c = "invaliddocument"
  · rw [if_pos h7] at hf
    refine ifT (decide_eq_true (by rw [h7])) ?_
    exact ⟨_, rfl, rfl, C, dd, fs, _, ec, T, hf.1, ed, s4 _ _ hdd, hf.2, q _ s4⟩
  rw [if_neg h7] at hf
  refine ifF (decide_eq_false (fun e => h7 (V.str.inj e))) ?_
  have hv : v = .non := hf
  rw [← hv]
  exact q _ s4
end


end T78

namespace T78
open PySem PySem.Spec PyProof.Rows L2 Tm
open LamX L2H
abbrev sTried : Stmt := topS 50
theorem scTried : FnScope ["_law_ask", "_law_e"] ["_law_ask"] (defScope sTried) := ⟨rfl, rfl, rfl, by decide +kernel, rfl, by decide +kernel, by decide +kernel⟩
/-- what is asked of an error that leaves the lambda: it is one of the two kinds, and its code and field are known -/
def wTried (K : PySem.W.Frag) (CT CM : Addr) (Q : VK) : XK := fun cls d H => ∃ b, PySem.W.exmOne K cls (.ref CT) = some b ∧ (b = false → PySem.W.exmOne K cls (.ref CM) = some true) ∧
  ∃ (c : Str) (v : V), ExcIs K cls d H c v ∧ ∀ H' t, Same H H' → H' t = none → Q (.ref t) (upd H' t (.tup [.str c, v]))
def TTried (K : PySem.W.Frag) (CT CM : Addr) : (XK → Hp → VK → Prop) → Hp → VK → Prop := fun tl H Q => tl (wTried K CT CM Q) H (fun v H' => [V.str (Str.ofString ""), v].length ≤ sizeLine ∧ ∀ t, H' t = none → Q (.ref t) (upd H' t (.tup [.str (Str.ofString ""), v])))
theorem takes_len {X : Cx} {W : WX} (tk : Takes X W) : Takes X (fun cls d σ H => σ.length = X.N.length → W cls d σ H) := by
  rintro u s ⟨a, B, s0, pins, σ, H, cls, d, e, inv, ground, slots, sky, new, os, bare, wish⟩
  exact tk u s ⟨a, B, s0, pins, σ, H, cls, d, e, inv, ground, slots, sky, new, os, bare, wish inv.len⟩
section
variable {X : Cx}
theorem tried_gives {g fF CT CM : Addr} {cdg : Value} {q : Str} {kV doc pm cdv ct oc : Value} {an od : Option Addr} {osl : Array (Option Value)} {k : Nat}
    (mT : X.mg "ThreadError" = some (.ref CT)) (mM : X.mg "Missing" = some (.ref CM))
    (written : X.K.lookup fF = some ⟨oc, od, .func (PySem.W.fnOf "_law_field" "_law_field" (defArgs sField) (defBody sField) (defScope sField) .none kV doc pm an cdv ct), osl⟩) (code : PySem.W.codeIn X.K cdv "_law_field" = true)
    (binds : L2.Binds X.K (PySem.W.fnOf "_law_field" "_law_field" (defArgs sField) (defBody sField) (defScope sField) .none kV doc pm an cdv ct) ["_law_e"] []) (holds : X.mg "_law_field" = some (.ref fF)) (kept : PySem.W.keepIn X.K (.ref fF) = true) (room : Room (k + 3) X.A) :
    GivesTo X ["_law_ask", "_law_e"] "_law_tried" (defScope sTried) g cdg (defBody sTried) "_law_ask" q (TTried X.K CT CM) := by
  intro f c' s H Q tl act hc ask
  have suite : ∀ (a : Addr) (oe : Obj) (cls : Value) (d : Option Addr) (pn : List (Addr × Obj)) (p1 p2 p3 p4 p5 p6 p7 : Pos) (k0 : Nat), Zc cls d oe → (∃ vs, oe.data = .fields vs) →
      PSs ((cxOf C8.CX0 X.prog X.w X.K X.mg X.base ["_law_ask", "_law_e"] "_law_tried" (defScope sTried) g cdg X.A X.stack s H C8.E0).nox.suite a ((a, oe) :: pn))
        [.Return (some (.Tuple [.Attribute (.Name "_law_e" p1) "code" p2, .Call (.Name "_law_field" p3) [.Name "_law_e" p4] [] p5] k0 p6)) p7]
        (tRet (tTup (tCons (tXfA X.K a cls d "code" (tVar 1)) (tCons (fun σ H Q => tVar 1 σ H fun v H1 => [v] = [V.ref a] ∧ spFieldE X.K cls d H1 Q) tNil)))) := by
    intro a oe cls d pn p1 p2 p3 p4 p5 p6 p7 k0 is flds
    refine pss_one (ps_ret (pe_tup (pa_cons (pe_pinned List.mem_cons_self is flds (pv 1)) (pa_cons (pe_given (k := 0) written code scField binds rfl holds kept ?_ (fun outer s2 H2 Q2 _ told => walk_field is flds told) (pv 1)) pa_nil))))
    have r := (roomH_of (room.deeper (envOfC "_law_tried" (defScope sTried) s.heap.objs.size g cdg))).mono (show 1 ≤ k + 2 by omega)
    exact ⟨r.dp, r.un⟩
  refine ⟨_, pss_one (ps_try_named (X := (cxOf C8.CX0 X.prog X.w X.K X.mg X.base ["_law_ask", "_law_e"] "_law_tried" (defScope sTried) g cdg X.A X.stack s H C8.E0).nox) (i := 1) (n := "_law_e")
      (tb := fun W D σ H => ∃ Ech : XK, (∀ cls d σ' H', Ech cls d H' → σ'.length = 2 → W cls d σ' H') ∧ σ[0]? = some (some (.ref f)) ∧ H c' = some (CodeO c' q) ∧ tl Ech H (fun v H' => [V.str (Str.ofString ""), v].length ≤ sizeLine ∧ ∀ t, H' t = none → D.rt (.ref t) (upd H' t (.tup [.str (Str.ofString ""), v]))))
      rfl rfl scTried.nd rfl rfl LamX.takes0 (fun W pn xe tk _ => ?body)
      (.cons ⟨rfl, by decide, .inl mT⟩ (fun a oe cls d pn is fl => suite a oe cls d pn _ _ _ _ _ _ _ _ is fl) (.cons ⟨rfl, by decide, .inl mM⟩ (fun a oe cls d pn is fl => suite a oe cls d pn _ _ _ _ _ _ _ _ is fl) .nil))), ?reads⟩
  case body =>
    refine ⟨fun pins s1 σ1 H1 D inv1 ask1 => ?_⟩
    obtain ⟨Ech, wish, slot, code1, rest⟩ := ask1
    have calls := fun p1 p2 => act (fun cls d σ H => σ.length = 2 → W cls d σ H) pn xe Ech p1 p2 (takes_len tk) (fun cls d σ' H' e => wish cls d σ' H' e)
    exact (pss_one (ps_ret (pe_tup (pa_cons pe_str (pa_cons (calls _ _) pa_nil))))).run pins s1 σ1 H1 D inv1 ⟨slot, code1, rest⟩
  case reads =>
    refine ⟨wTried X.K CT CM Q, ?_, rfl, hc, ask⟩
    rintro cls d σ' H' ⟨b, kind, other, c, v, ex, out⟩ len
    have told : ∀ a, H' a = none → tRet (tTup (tCons (tXfA X.K a cls d "code" (tVar 1)) (tCons (fun σ H Q => tVar 1 σ H fun v H1 => [v] = [V.ref a] ∧ spFieldE X.K cls d H1 Q) tNil))) (nameless 1 { nx := fun _ H' => Q .non H', rt := Q }) (σ'.set 1 (some (.ref a))) H' := by
      intro a new
      have at1 : (σ'.set 1 (some (.ref a)))[1]? = some (some (V.ref a)) := by rw [List.getElem?_set_self (by omega)]
      obtain ⟨C, dd, fs, h1, h2, h3, h4, h5, h6, h7⟩ := ex.ex
      refine ⟨_, at1, rfl, C, dd, fs, _, h1, h2, h3, h4, h5, h6, _, at1, rfl, c, v, ex, fun H2 same => ⟨(by show 2 ≤ sizeLine; decide), fun t nt => out H2 t same nt⟩⟩
    refine ⟨b, kind, fun _ a new => told a new, fun hb => ?_⟩
    exact ⟨true, other hb, fun _ a new => told a new, fun z => Bool.noConfusion z⟩
end


end T78

/-! errors with a code and one field: how they are made -/
namespace Tm
open PySem PySem.Spec PyProof.Rows L2
/-- __init__(self, v): self.code = c; self.fld = v -/
def spErr (C : Addr) (c fld : Str) : Sp := fun vs H Q _ => ∃ (a : Addr) (v : V), vs = [.ref a, v] ∧ H a = some (exo a C none) ∧
  ∀ dx, H dx = none → dx ≠ a → Q .non (upd (upd (upd H dx (exd dx [("code", .str c)])) a (exo a C (some dx))) dx (exd dx [(fld, v), ("code", .str c)]))
/-- what stands behind the making of such an error -/
theorem made_err {C : Addr} {c fld : Str} {ta : TA} {σ : L2.St} {H : Hp} {Q : XK}
    (ask : ta σ H fun vs H1 => ∃ v, vs = [v] ∧ ∀ H3 d, Same H1 H3 → H1 d = none → H3 d = some (.xd [(fld, v), ("code", .str c)]) → Q (.ref C) (some d) H3)
    (mono : ∀ (R S : List V → Hp → Prop), (∀ vs H, R vs H → S vs H) → ta σ H R → ta σ H S) : tMkO C (spErr C c fld) [] ta σ H Q := by
  refine mono _ _ ?_ ask
  rintro vs H1 ⟨v, rfl, out⟩
  refine ⟨by show 1 ≤ 1000; decide, fun a na => ⟨a, v, rfl, upd_same, fun dx ndx nda => ⟨rfl, dx, _, ?_, upd_same, ?_, ?_⟩⟩⟩
  · rw [upd_ne (fun e => nda e.symm), upd_same]
  · rw [upd_ne nda] at ndx
    exact ndx
  · rw [upd_ne nda] at ndx
    refine out _ dx ?_ ndx upd_same
    intro b o hb
    have b1 : b ≠ dx := ne_of_none hb ndx
    have b2 : b ≠ a := ne_of_none hb na
    rw [upd_ne b1, del_ne b2, upd_ne b1, upd_ne b2, upd_ne b1, upd_ne b2]
    exact hb
end Tm

namespace T78
open PySem PySem.Spec PyProof.Rows L2 Tm
abbrev sIW : Stmt := inClass (topS 7) 0
theorem scIW : FnScope ["self", "position"] ["self", "position"] (defScope sIW) := ⟨rfl, rfl, rfl, by decide +kernel, rfl, by decide +kernel, by decide +kernel⟩
section
variable {P : Program} {w : World} {K : PySem.W.Frag} {mg : Str → Option Value} {base : Heap}
theorem ok_iw {f C : Addr} {fd : FuncData} (F : Fun K "__init__" "InvalidWord.__init__" sIW f fd) (T : OexC K C) (nc : PySem.W.findIn K (.ref C) "code" = some none) (np : PySem.W.findIn K (.ref C) "position" = some none) :
    FnOk P w K mg base CX0 1 f fd ["self", "position"] (spErr C "invalidword" "position") := by
  refine F.ok scIW (fun vs H Q E h => ?_) (fun cdv A outer s H vs Q E hr h => ?_)
  · obtain ⟨a, v, rfl, _⟩ := h
    rfl
  · obtain ⟨a, v, rfl, ha, q⟩ := h
    refine ⟨_, pss_cons (ps_ost (pv 0) pe_str) (pss_one (ps_ost (pv 0) (pv 1))), ?_⟩
    refine ⟨_, rfl, a, C, rfl, T, nc, .inl ⟨ha, fun dx n1 n2 => ?_⟩⟩
    exact ⟨_, rfl, _, rfl, a, C, rfl, T, np, .inr ⟨dx, _, upd_same, by rw [upd_ne n2]; exact upd_same, by show 1 ≤ 900; decide, q dx n1 n2⟩⟩
end


end T78

/-! for i, x in enumerate(t), t a tuple -/
namespace Tm
open PySem PySem.Spec PyProof.Rows L2
/-- the cell of an enumerate that has just been made over an iterator -/
def freshEnum (it : Addr) : Obj := { cls := .type "enumerate", data := .fields #[.none, .bool false, .ref it, rawInt 0, .none, .none] }
set_option maxHeartbeats 2000000 in
theorem enum_new {v : Value} {o : Obj} {At : Heap → Prop} (begin_ : Begins v o At) :
    Meets (Builtin.«enumerate.__new__» ⟨[.type "enumerate", v], []⟩) (fun _ R s => At s.heap ∧ R (.ok (.ret (.ref (s.heap.push o).objs.size))) { s with heap := (s.heap.push o).push (freshEnum s.heap.objs.size) }) := by
  refine Meets.of_wp fun prog w A R s ⟨stands, goal⟩ => ?_
  cases s with
  | mk heap gens drawn toks os =>
    have whole := sub_enumerate
    have iterates : ∀ {B : Around} {E : Value → Shared → Prop} {Q : Value → Shared → Prop}, Q (.ref heap.objs.size) ⟨heap.push o, gens, drawn, toks, os⟩ → wpAny (model prog w) B (pyIter v) Q E ⟨heap, gens, drawn, toks, os⟩ := by
      intro B E Q q
      exact begin_.iter prog w B E ⟨heap, gens, drawn, toks, os⟩ Q stands q
    wp_walk using iterates
    apply wpAny_stack_any
    intro frames
    apply wpAny_pure
    rcases frames with _ | ⟨top, below⟩
    all_goals
      try split
      all_goals
        try (rename_i kind _ _ _ _ _; cases (kind == Value.type "enumerate"))
        all_goals
          wp_walk using iterates
          exact ⟨_, rfl, goal⟩
/-- enumerate(t) begins: its iterator, and itself -/
theorem enum_made {prog : Program} {w : World} {A : Around} {E : Value → Shared → Prop} {s : Shared} {v : Value} {o : Obj} {At : Heap → Prop} {Q : Value → Shared → Prop} (begin_ : Begins v o At) (stands : At s.heap)
    (hand : ∀ h', IsEnum h' (s.heap.objs.size + 1) s.heap.objs.size 0 .none → h'.get? s.heap.objs.size = some o → (∀ b u, s.heap.get? b = some u → h'.get? b = some u) → Q (.ref (s.heap.objs.size + 1)) { s with heap := h' }) :
    wpAny (model prog w) A (call (.type "enumerate") [v]) Q E s := by
  have next : (s.heap.push o).objs.size = s.heap.objs.size + 1 := Heap.size_push ..
  apply callType_new F.called_enumerate (by decide) (F.typeCall_enumerate_1 _) (F.newCall_enumerate_1 _) (fun obj => F.args_object_init_2 obj _) F.entry_enumerate_new (enum_new begin_)
  refine ⟨stands, ?_⟩
  have there : ((s.heap.push o).push (freshEnum s.heap.objs.size)).get? (s.heap.push o).objs.size = some (freshEnum s.heap.objs.size) := Heap.get?_push_size _ rfl
  have first : ((s.heap.push o).push (freshEnum s.heap.objs.size)).get? s.heap.objs.size = some o := Heap.get?_push_of_some _ (Heap.get?_push_size _ begin_.free)
  have more := hand ((s.heap.push o).push (freshEnum s.heap.objs.size)) (by rw [← next]; exact there) first (fun b u e => Heap.get?_push_of_some _ (Heap.get?_push_of_some _ e))
  rw [← next] at more
  exact ⟨⟨_, there, rfl⟩, more⟩
/-- what enumerate of a tuple gives out -/
def IteT (K : PySem.W.Frag) (t : Addr) : It :=
  ⟨fun i H => ∃ xs, SqT K H t xs ∧ i < xs.length, fun i H x H' => ∃ T y, x = .ref T ∧ H T = none ∧ H' = upd H T (.tup [.int (i : Nat), y]) ∧ ∀ xs, SqT K H t xs → xs[i]? = some y, fun i H => ∃ xs, SqT K H t xs ∧ xs.length = i⟩
def enumAt (N t : Addr) (i : Nat) (h : Heap) : Prop := (∃ old, IsEnum h (N + 1) N ((0 : Int) + (i : Int)) old) ∧ h.IsTupleIter N t i
theorem enum_goes {prog : Program} {w : World} {A : Around} (hh : A.handled = none) (elts : List Expr) (k : Nat) (pos : Pos) (N t : Addr) (nt : t ≠ N) (nt1 : t ≠ N + 1) (items : Array Value) :
    GoesN prog w A (.Tuple elts k pos) (N + 1) [N + 1, N, t] [N + 1, N] items.size (fun i h₀ v h => ∃ T tok x, v = .ref T ∧ h₀.objs.size ≤ T ∧ items[i]? = some x ∧ h.IsTuple T #[.int ((0 : Int) + (i : Int)) tok, x])
      (fun i h => (∃ old, IsEnum h (N + 1) N ((0 : Int) + (i : Int)) old) ∧ h.IsTupleIter N t i ∧ h.IsTuple t items) :=
  GoesN.enumFrom (prog := prog) (w := w) (A := A) (elts := elts) (x1 := k) (pos := pos) 0 (Draws.tuple (A := A.in1) hh N t nt items) (N + 1) (Nat.succ_ne_self N) (by simp only [List.mem_cons, List.not_mem_nil, or_false, not_or]; exact ⟨Nat.succ_ne_self N, fun e => nt1 e.symm⟩) (by simp)
theorem enum_obj {N t : Addr} {i : Nat} {h : Heap} (st : enumAt N t i h) : ∀ q ∈ [N + 1, N], ∃ o, h.get? q = some o ∧ ∀ v, o.data ≠ .cell v := by
  obtain ⟨⟨old, e⟩, ⟨o, g, c, d⟩⟩ := st
  intro q hq
  simp only [List.mem_cons, List.not_mem_nil, or_false] at hq
  rcases hq with rfl | rfl
  · exact ⟨_, e, fun v z => by cases z⟩
  · exact ⟨o, g, fun v z => by rw [d] at z; cases z⟩
theorem enum_turn (P : Program) (w : World) (K : PySem.W.Frag) (elts : List Expr) (k : Nat) (pos : Pos) (N t : Addr) (nt : t ≠ N) (nt1 : t ≠ N + 1) : Turn P w K (.Tuple elts k pos) (IteT K t) [N + 1, N] (N + 1) (enumAt N t) where
  mem := List.mem_cons_self ..
  obj := fun i h st => enum_obj st
  keep := by
    rintro i h h' ⟨⟨old, e⟩, it⟩ same
    exact ⟨⟨old, same _ (by simp) _ e⟩, it.at fun o z => same _ (by simp) o z⟩
  item := by
    intro X ep ew eK calm i pins s σ H E inv own st go
    subst ep ew eK
    obtain ⟨xs, sq, lt⟩ := go
    obtain ⟨its, rel, tup, room⟩ := inv.tuple sq
    have G := enum_goes (prog := X.prog) (w := X.w) (inv.ok.hd calm) elts k pos N t nt nt1 its.toArray
    have size : i < its.toArray.size := by rw [List.size_toArray, ← rel.length]; exact lt
    refine G.goes i s (fun v s2 => ∃ x H', Inv X pins σ H' s2 ∧ RelV x v ∧ (IteT X.K t).yld i H x H' ∧ enumAt N t (i + 1) s2.heap ∧ ∀ b ∈ [N + 1, N], H' b = none) E size ⟨st.1, st.2, tup⟩ ?_
    rintro v h' tk ⟨T, tok, x, rfl, new, hx, told⟩ ⟨e', it', _⟩ kept _
    obtain ⟨y, hy, rxy⟩ : ∃ y, xs[i]? = some y ∧ RelV y x := by
      obtain ⟨u, hu, ru⟩ := Vals.get rel (List.getElem?_eq_getElem lt)
      rw [List.getElem?_toArray, hu] at hx
      cases Option.some.inj hx
      exact ⟨xs[i], List.getElem?_eq_getElem lt, ru⟩
    have fresh : H T = none := inv.hok.fresh new
    have laid : ObjOk X.prog X.w (upd H T (.tup [.int (i : Nat), y])) h' T (.tup [.int (i : Nat), y]) :=
      ⟨by show 2 ≤ sizeLine; decide, [.int ((0 : Int) + (i : Int)) tok, x], .cons ⟨tok, by rw [Int.zero_add]⟩ (.cons rxy .nil), told⟩
    refine ⟨.ref T, _, inv.turnedNew kept (fun q hq => own q hq) new laid, rfl, ⟨T, y, rfl, fresh, rfl, fun ys hys => by rw [inv.tuple_inj hys sq]; exact hy⟩, ⟨e', it'⟩, fun q hq => ?_⟩
    have ne : q ≠ T := fun z => by
      obtain ⟨ob, there, _⟩ := enum_obj st q hq
      exact absurd (Nat.lt_of_lt_of_le (Heap.lt_size there) (z ▸ new)) (Nat.lt_irrefl _)
    rw [upd_ne ne]
    exact (own q hq).1
  done := by
    intro X ep ew eK calm i pins s σ H E inv own st stop
    subst ep ew eK
    obtain ⟨xs, sq, le⟩ := stop
    obtain ⟨its, rel, tup, room⟩ := inv.tuple sq
    have G := enum_goes (prog := X.prog) (w := X.w) (inv.ok.hd calm) elts k pos N t nt nt1 its.toArray
    have size : i = its.toArray.size := by rw [List.size_toArray, ← rel.length]; exact le.symm
    subst size
    refine G.stops s (L2.Inv X pins σ H) E ⟨st.1, st.2, tup⟩ fun h' tk kept _ => ?_
    exact inv.turnedL kept fun q hq => own q hq
  self := fun _ _ _ _ _ st done => let ⟨⟨_, e⟩, _⟩ := st; wpAny_pyIter_enum e done
def iEnumT (K : PySem.W.Frag) (ta : TA) : TI := fun σ H R => ta σ H fun vs H1 => ∃ t xs, vs = [.ref t] ∧ SqT K H1 t xs ∧ R (IteT K t) H1
theorem pi_enumT {X : Cx} {e : Expr} {ta : TA} {p pos tpos : Pos} {elts : List Expr} {kk : Nat} (glob : Gl X "enumerate") (free : X.mg "enumerate" = none) (args : PA X [e] ta)
    (first : starEach [e] X.env = [(false, eval e X.env)] := by rfl) (plain : (backTo pos (starEach [] X.env)).any (·.1) = false := by rfl) :
    PI X (.Tuple elts kk tpos) (.Call (.Name "enumerate" p) [e] [] pos) (iEnumT X.K ta) where
  run pins s σ H R inv ask := by
    apply wpAny_Call_Name_kw
    apply ld_blt inv glob free PyProof.Rows.boot_enumerate
    apply PyProof.Rows.callWith_type1 _ first plain
    apply wpAny_mono (args.run pos pins s σ H _ inv ask) _ (fun _ _ raised => raised)
    rintro held s1 ⟨given, H1, inv1, rel, t, xs, rfl, sq, hand⟩
    match held, rel with
    | [_], .cons rfl .nil =>
      obtain ⟨its, rv, tup, room⟩ := inv1.tuple sq
      apply enum_made (begins_tuple t its.toArray) tup
      intro heap he hi kept
      apply wpAny_pyIter_enum he
      have inv2 : L2.Inv X pins σ H1 { s1 with heap := heap } := inv1.kept (t' := s1.toks) kept
      have below : t < s1.heap.objs.size := by
        obtain ⟨o, there, _⟩ := tup
        exact Heap.lt_size there
      have N1 : s1.heap.objs.size ≤ s1.heap.objs.size + 1 := Nat.le_succ _
      refine ⟨_, [s1.heap.objs.size + 1, s1.heap.objs.size], enumAt s1.heap.objs.size t, IteT X.K t, H1, rfl, inv2, enum_turn _ _ _ _ _ _ _ _ (Nat.ne_of_lt below) (Nat.ne_of_lt (Nat.lt_succ_of_lt below)), ⟨⟨.none, he⟩, ⟨_, hi, rfl, rfl⟩⟩, fun q hq => ?_, hand⟩
      have above : s1.heap.objs.size ≤ q := by
        simp only [List.mem_cons, List.not_mem_nil, or_false] at hq
        rcases hq with rfl | rfl
        · exact N1
        · exact Nat.le_refl _
      exact inv1.fpOk (H' := H1) above (inv1.hok.fresh above)
theorem walk_enumT {K : PySem.W.Frag} {t : Addr} {xs : List V} : Walk (IteT K t) xs.length (fun H => SqT K H t xs) (fun i H v H' => ∃ T x, v = .ref T ∧ H T = none ∧ H' = upd H T (.tup [.int (i : Nat), x]) ∧ xs[i]? = some x) where
  goes i H lt here := ⟨xs, here, lt⟩
  stops H here := ⟨xs, here, rfl⟩
  yields i H v H' lt here got := by
    obtain ⟨T, x, e1, e2, e3, which⟩ := got
    exact ⟨T, x, e1, e2, e3, which xs here⟩
end Tm

/-! for i, c in enumerate(text) -/
namespace Tm
open PySem PySem.Spec PyProof.Rows L2
/-- what enumerate of a text gives out -/
def IteX (cs : List Nat) : It :=
  ⟨fun i _ => i < cs.length, fun i H x H' => ∃ T c, x = .ref T ∧ H T = none ∧ H' = upd H T (.tup [.int (i : Nat), sig c]) ∧ cs[i]? = some c, fun i _ => i = cs.length⟩
def enumX (N : Addr) (x : Str) (t : Tok) (i : Nat) (h : Heap) : Prop := (∃ old, IsEnum h (N + 1) N ((0 : Int) + (i : Int)) old) ∧ h.IsStrIter N (strIterType x) x t i
theorem enumX_goes {prog : Program} {w : World} {A : Around} (hh : A.handled = none) (elts : List Expr) (k : Nat) (pos : Pos) (N : Addr) (x : Str) (t : Tok) :
    GoesN prog w A (.Tuple elts k pos) (N + 1) [N + 1, N] [N + 1, N] x.cps.size (fun i h₀ v h => ∃ T tok y, v = .ref T ∧ h₀.objs.size ≤ T ∧ (∃ c u, x.cps[i]? = some c ∧ y = .str ⟨#[c]⟩ u) ∧ h.IsTuple T #[.int ((0 : Int) + (i : Int)) tok, y]) (enumX N x t) :=
  GoesN.enumFrom (prog := prog) (w := w) (A := A) (elts := elts) (x1 := k) (pos := pos) 0 (Draws.text (A := A.in1) hh N x t) (N + 1) (Nat.succ_ne_self N) (by simp only [List.mem_cons, List.not_mem_nil, or_false]; exact Nat.succ_ne_self N) (by simp)
theorem enumX_obj {N : Addr} {x : Str} {t : Tok} {i : Nat} {h : Heap} (st : enumX N x t i h) : ∀ q ∈ [N + 1, N], ∃ o, h.get? q = some o ∧ ∀ v, o.data ≠ .cell v := by
  rcases st with ⟨⟨old, e⟩, ⟨o, g, c, d⟩⟩
  intro q hq
  rcases List.mem_cons.mp hq with rfl | hq
  · exact ⟨_, e, fun v z => by cases z⟩
  · rw [List.mem_singleton.mp hq]
    exact ⟨o, g, fun v z => by rw [d] at z; cases z⟩
theorem enumX_turn (P : Program) (w : World) (K : PySem.W.Frag) (elts : List Expr) (k : Nat) (pos : Pos) (N : Addr) (cs : List Nat) (t : Tok) : Turn P w K (.Tuple elts k pos) (IteX cs) [N + 1, N] (N + 1) (enumX N (txt cs) t) where
  mem := List.mem_cons_self ..
  obj := fun i h st => enumX_obj st
  keep := by
    rintro i h h' ⟨⟨old, e⟩, ⟨o, g, r⟩⟩ same
    exact ⟨⟨old, same _ (by simp) _ e⟩, ⟨o, same _ (by simp) _ g, r⟩⟩
  item := by
    intro X ep ew eK calm i pins s σ H E inv own st go
    subst ep ew eK
    have G := enumX_goes (prog := X.prog) (w := X.w) (inv.ok.hd calm) elts k pos N (txt cs) t
    refine G.goes i s (fun v s2 => ∃ x H', Inv X pins σ H' s2 ∧ RelV x v ∧ (IteX cs).yld i H x H' ∧ enumX N (txt cs) t (i + 1) s2.heap ∧ ∀ b ∈ [N + 1, N], H' b = none) E (by rw [size_txt]; exact go) st ?_
    rintro v h' tk ⟨T, tok, y, rfl, new, ⟨c, u, hc, rfl⟩, told⟩ st' kept _
    have fresh : H T = none := inv.hok.fresh new
    have laid : ObjOk X.prog X.w (upd H T (.tup [.int (i : Nat), sig c])) h' T (.tup [.int (i : Nat), sig c]) :=
      ⟨by show 2 ≤ sizeLine; decide, [.int ((0 : Int) + (i : Int)) tok, .str ⟨#[c]⟩ u], .cons ⟨tok, by rw [Int.zero_add]⟩ (.cons ⟨u, rfl⟩ .nil), told⟩
    refine ⟨.ref T, _, inv.turnedNew kept (fun q hq => own q hq) new laid, rfl, ⟨T, c, rfl, fresh, rfl, at_txt hc⟩, st', fun q hq => ?_⟩
    have ne : q ≠ T := by
      intro z
      obtain ⟨ob, there, _⟩ := enumX_obj st q hq
      exact absurd (Nat.lt_of_lt_of_le (Heap.lt_size there) (z ▸ new)) (Nat.lt_irrefl _)
    rw [upd_ne ne]
    exact (own q hq).1
  done := by
    intro X ep ew eK calm i pins s σ H E inv own st stop
    subst ep ew eK
    have G := enumX_goes (prog := X.prog) (w := X.w) (inv.ok.hd calm) elts k pos N (txt cs) t
    have e : i = (txt cs).cps.size := by rw [size_txt]; exact stop
    subst e
    refine G.stops s (Inv X pins σ H) E st fun h' tk kept _ => ?_
    exact inv.turnedL kept fun q hq => own q hq
  self := fun _ _ _ _ _ st done => let ⟨⟨_, e⟩, _⟩ := st; wpAny_pyIter_enum e done
def iEnumX (ta : TA) : TI := fun σ H R => ta σ H fun vs H1 => ∃ cs : List Nat, vs = [.str (txt cs)] ∧ R (IteX cs) H1
theorem pi_enumX {X : Cx} {e : Expr} {ta : TA} {p pos tpos : Pos} {elts : List Expr} {kk : Nat} (glob : Gl X "enumerate") (free : X.mg "enumerate" = none) (args : PA X [e] ta)
    (first : starEach [e] X.env = [(false, eval e X.env)] := by rfl) (plain : (backTo pos (starEach [] X.env)).any (·.1) = false := by rfl) :
    PI X (.Tuple elts kk tpos) (.Call (.Name "enumerate" p) [e] [] pos) (iEnumX ta) where
  run pins s σ H R inv ask := by
    apply wpAny_Call_Name_kw
    apply ld_blt inv glob free PyProof.Rows.boot_enumerate
    apply PyProof.Rows.callWith_type1 _ first plain
    apply wpAny_mono (args.run pos pins s σ H _ inv ask) _ (fun _ _ raised => raised)
    rintro held s1 ⟨given, H1, inv1, rel, cs, rfl, hand⟩
    match held, rel with
    | [_], .cons ⟨t, rfl⟩ .nil =>
      apply enum_made (begins_text (txt cs) t) trivial
      intro heap he hi kept
      apply wpAny_pyIter_enum he
      have inv2 : L2.Inv X pins σ H1 { s1 with heap := heap } := inv1.kept (t' := s1.toks) kept
      refine ⟨_, [s1.heap.objs.size + 1, s1.heap.objs.size], enumX s1.heap.objs.size (txt cs) t, IteX cs, H1, rfl, inv2, enumX_turn _ _ _ _ _ _ _ _ _, ⟨⟨.none, he⟩, ⟨_, hi, rfl, rfl⟩⟩, fun q hq => ?_, hand⟩
      have above : s1.heap.objs.size ≤ q := by
        rcases List.mem_cons.mp hq with rfl | hq
        · exact Nat.le_succ _
        · rw [List.mem_singleton.mp hq]
          exact Nat.le_refl _
      exact inv1.fpOk (H' := H1) above (inv1.hok.fresh above)
theorem walk_enumX {cs : List Nat} : Walk (IteX cs) cs.length (fun _ => True) (fun i H v H' => ∃ T c, v = .ref T ∧ H T = none ∧ H' = upd H T (.tup [.int (i : Nat), sig c]) ∧ cs[i]? = some c) where
  goes _ _ lt _ := lt
  stops _ _ := rfl
  yields _ _ _ _ _ _ got := got
end Tm

/-! min(list of texts): one of them -/
namespace Tm
open PySem PySem.Spec PyProof.Rows L2
theorem dp_texts {K : PySem.W.Frag} {H : Hp} : ∀ zs : List Str, DpAll K H (zs.map V.str) (zs.map PyData.str)
  | [] => .nil
  | z :: r => .cons (.str z) (dp_texts r)
theorem depth_texts : ∀ zs : List Str, PyData.depthAll (zs.map PyData.str) ≤ 1
  | [] => by simp [PyData.depthAll]
  | z :: r => by
    have := depth_texts r
    simp only [List.map_cons, PyData.depthAll, PyData.depth]
    omega
def rMinT (K : PySem.W.Frag) : List V → Hp → VK → Prop := fun given H Q => ∃ (p : Addr) (zs : List Str), given = [.ref p] ∧ SqL K H p (zs.map V.str) ∧ zs ≠ [] ∧ ∀ z ∈ zs, Q (.str z) H
theorem call_minT {X : Cx} (calm : X.calm = true) (room : X.A.units + 2 < cLine) : CallR X (.builtin "min") (rMinT X.K) :=
  fun pins s σ H given held Q inv rel ask => by
    rcases ask with ⟨p, zs, rfl, sq, some_, hand⟩
    match held, rel with
    | [_], .cons rfl .nil =>
      obtain ⟨us, vals, plain, _⟩ := inv.list sq
      obtain ⟨as, reads⟩ := Dp.readsAll inv _ _ _ (dp_texts zs) vals
      cases zs with
      | nil => exact absurd rfl some_
      | cons z r =>
        have d := depth_texts (z :: r)
        rw [List.map_cons] at d
        refine PySem.W.min_list_data (vs := us.toArray) (inv.ok.hd calm) plain.isList (by simpa using reads) ?_ (by omega) ?_
        · constructor
          · intro a ha b hb
            rw [← List.map_cons] at ha hb
            obtain ⟨a', _, rfl⟩ := List.mem_map.mp ha
            obtain ⟨b', _, rfl⟩ := List.mem_map.mp hb
            rfl
          · intro a ha
            rw [← List.map_cons] at ha
            obtain ⟨a', _, rfl⟩ := List.mem_map.mp ha
            intro e
            cases e
        · intro i v h' tk bs hv _ kept
          have hv' : us[i]? = some v := by
            have e : us.toArray[i]? = us[i]? := List.getElem?_toArray ..
            rw [← e]; exact hv
          have lt : i < ((z :: r).map V.str).length := by
            have := (List.getElem?_eq_some_iff.mp hv').1
            rw [vals.length]; exact this
          obtain ⟨u, hu, ru⟩ := Vals.get vals (List.getElem?_eq_getElem lt)
          rw [hu] at hv'
          cases hv'
          have lt2 : i < (z :: r).length := by rwa [List.length_map] at lt
          rw [List.getElem_map] at ru
          exact ⟨.str (z :: r)[i], H, inv.kept kept, ru, hand _ (List.getElem_mem lt2)⟩
end Tm

/-! tables of strings, and the values of words -/
namespace Tm
open PySem PySem.Spec PyProof.Rows L2
def rowsK (rows : List (Nat × List Nat)) : List (Key × V) := rows.map fun r => (Sum.inr (txt [r.1]), tv r.2)
theorem rowsK_at (c : Nat) : ∀ rows : List (Nat × List Nat), valV (rowsK rows) (Sum.inr (txt [c])) = (rows.lookup c).map tv
  | [] => rfl
  | r :: rs => by
    show valV ((Sum.inr (txt [r.1]), tv r.2) :: rowsK rs) (Sum.inr (txt [c])) = _
    by_cases h : c = r.1
    · subst h
      rw [valV_pos rfl, List.lookup_cons]
      simp
    · have ne : ¬ ((Sum.inr (txt [r.1]) : Key) = Sum.inr (txt [c])) := by
        intro e
        have e2 := txt_inj (Sum.inr.inj e)
        exact h (List.head_eq_of_cons_eq e2).symm
      rw [valV_neg ne, rowsK_at c rs, List.lookup_cons]
      have hb : (c == r.1) = false := by simpa using h
      rw [hb]
theorem lookup_mem {c : Nat} {x : List Nat} : ∀ {rows : List (Nat × List Nat)}, rows.lookup c = some x → (c, x) ∈ rows
  | [], h => by cases h
  | r :: rs, h => by
    rw [List.lookup_cons] at h
    cases hb : c == r.1 with
    | true =>
      rw [hb] at h
      have e : c = r.1 := by simpa using hb
      cases h
      rw [e]
      exact List.mem_cons_self
    | false =>
      rw [hb] at h
      exact List.mem_cons_of_mem _ (lookup_mem h)
theorem mem_lookup {c : Nat} : ∀ {rows : List (Nat × List Nat)}, c ∈ rows.map (·.1) → ∃ x, rows.lookup c = some x
  | [], h => by cases h
  | r :: rs, h => by
    rw [List.lookup_cons]
    cases hb : c == r.1 with
    | true => exact ⟨_, rfl⟩
    | false =>
      rcases List.mem_cons.mp h with e | e
      · exact absurd (by simpa using e) (by simpa using hb)
      · exact mem_lookup e
structure Tbl (H : Hp) (d : Addr) (n : Nat) (rows : List (Nat × List Nat)) : Prop where
  at_ : H d = some (.dK (rowsK rows))
  few : rows.length ≤ 30
  all : ∀ r ∈ rows, Sn n r.2
  small : n ≤ 900
theorem Tbl.same {H H' : Hp} {d : Addr} {n : Nat} {rows : List (Nat × List Nat)} (t : Tbl H d n rows) (s : Same H H') : Tbl H' d n rows := ⟨s _ _ t.at_, t.few, t.all, t.small⟩
def sizeN (n : Nat) (rows : List (Nat × List Nat)) : Nat := if rows.isEmpty then 0 else n
def strsOf (rows : List (Nat × List Nat)) (cs : List Nat) : List (List Nat) := cs.filterMap fun c => rows.lookup c
def prodL (n : Nat) (rows : List (Nat × List Nat)) (word : List Nat) : List Nat := multL (List.replicate (sizeN n rows) 49 :: strsOf rows (lettersL word))
def valL (n : Nat) (rows : List (Nat × List Nat)) (word : List Nat) : List Nat := signedL ((signL word : Nat) + (signL (prodL n rows word) : Nat) : Int) (lettersL (prodL n rows word))
theorem strs_sn {n : Nat} {rows : List (Nat × List Nat)} (all : ∀ r ∈ rows, Sn n r.2) (cs : List Nat) : ∀ x ∈ strsOf rows cs, Sn (sizeN n rows) x := by
  intro x hx
  obtain ⟨c, _, hc⟩ := List.mem_filterMap.mp hx
  have m := lookup_mem hc
  have ne : rows.isEmpty = false := by
    cases rows with
    | nil => cases m
    | cons _ _ => rfl
  unfold sizeN
  rw [ne]
  exact all _ m
theorem strs_len (rows : List (Nat × List Nat)) (cs : List Nat) : (strsOf rows cs).length ≤ cs.length := List.length_filterMap_le ..
def spSizeOf : Sp := fun vs H Q _ => ∃ (d : Addr) (n : Nat) (rows : List (Nat × List Nat)), vs = [.ref d] ∧ Tbl H d n rows ∧ ∀ H', Same H H' → Q (.int ((sizeN n rows : Nat) : Int)) H'
def goodW (rows : List (Nat × List Nat)) (cs : List Nat) : Prop := ∀ c ∈ cs, ∃ x, rows.lookup c = some x
def spValue (CI : Addr) : Sp := fun vs H Q E => ∃ (d : Addr) (n : Nat) (rows : List (Nat × List Nat)) (word : List Nat), vs = [.ref d, tv word] ∧ Tbl H d n rows ∧ word.length ≤ 20 ∧ (lettersL word).length ≤ 19 ∧
  (goodW rows (lettersL word) → ∀ H', Same H H' → Q (tv (valL n rows word)) H') ∧
  (∀ (i c : Nat), (lettersL word)[i]? = some c → rows.lookup c = none → goodW rows ((lettersL word).take i) → ∀ H' dd, Same H H' → H dd = none → H' dd = some (.xd [("position", .int (i : Nat)), ("code", .str "invalidword")]) → E (.ref CI) (some dd) H')
end Tm

namespace T78
open PySem PySem.Spec PyProof.Rows L2 Tm
abbrev sSizeOf : Stmt := topS 38
theorem scSizeOf : FnScope ["table"] ["table"] (defScope sSizeOf) := ⟨rfl, rfl, rfl, by decide +kernel, rfl, by decide +kernel, by decide +kernel⟩
abbrev sValueOf : Stmt := topS 39
theorem scValueOf : FnScope ["table", "word", "letters", "position", "letter", "strings", "product"] ["table", "word"] (defScope sValueOf) := ⟨rfl, rfl, rfl, by decide +kernel, rfl, by decide +kernel, by decide +kernel⟩
section
variable {P : Program} {w : World} {K : PySem.W.Frag} {mg : Str → Option Value} {base : Heap}
theorem ok_sizeof {f fL : Addr} {fd fdL : FuncData} (F : Fun K "size_of" "size_of" sSizeOf f fd) (FL : Fun K "letters_of" "letters_of" sLettersOf fL fdL) (bL : Binds K fdL ["text"] []) (gL : mg "letters_of" = some (.ref fL)) (ml : mg "len" = none) (mm : mg "min" = none) (mli : mg "list" = none) :
    FnOk P w K mg base CX0 2 f fd ["table"] spSizeOf := by
  have GL : FnOk P w K mg base CX0 1 fL fdL ["text"] spLetters := ok_letters FL
  refine F.ok scSizeOf (fun vs H Q E h => ?_) (fun cdv A outer s H vs Q E hr h => ?_)
  · obtain ⟨d, n, rows, rfl, _⟩ := h
    rfl
  · obtain ⟨d, n, rows, rfl, t, q⟩ := h
    refine ⟨_, pss_one (ps_ret (pe_ifExp (pt_truth (pv 0) (fun _ => rfl)) (pe_callB call_len_str (by rfl) ml PySem.boot_len (pa_cons (pe_call GL hr (by rfl) gL FL.kp bL .nil pass0 (pa_cons (pe_dget (hu_of hr) (pv 0)
      (pe_callB (call_minT rfl (Nat.lt_of_le_of_lt (Nat.add_le_add_left (by decide : 2 ≤ 64) _) hr.units)) (by rfl) mm (by decide +kernel) (pa_cons (pe_callTy (call_listD rfl) (by rfl) mli boot_list (pa_cons (pv 0) pa_nil)) pa_nil)) (fun _ _ => rfl)) pa_nil)) pa_nil)) pe_int)), ?_⟩
    refine ⟨_, rfl, !rows.isEmpty, .inr (.inr ⟨_, t.at_, by unfold rowsK; rw [List.isEmpty_map]⟩), ?_⟩
    cases rows with
    | nil => exact iteF (q H (Same.refl H))
    | cons r rs =>
      refine iteT ⟨_, rfl, _, rfl, d, _, rfl, .inl t.at_, fun p np => ?_⟩
      have e : (rowsK (r :: rs)).map (fun kv => kV kv.1) = ((r :: rs).map fun r => txt [r.1]).map V.str := by
        unfold rowsK
        rw [List.map_map, List.map_map]
        rfl
      rw [e]
      refine ⟨p, _, rfl, SqL.of upd_same, by simp, fun z hz => ?_⟩
      obtain ⟨r', hr', rfl⟩ := List.mem_map.mp hz
      obtain ⟨x, hx⟩ := mem_lookup (List.mem_map.mpr ⟨r', hr', rfl⟩ : r'.1 ∈ (r :: rs).map (·.1))
      have sn : Sn n x := t.all _ (lookup_mem hx)
      have look : valV (rowsK (r :: rs)) (Sum.inr (txt [r'.1])) = some (tv x) := by rw [rowsK_at, hx]; rfl
      have got : DGet (upd H p (.lst (((r :: rs).map fun r => txt [r.1]).map V.str))) d (.str (txt [r'.1])) (some (tv x)) := look ▸ DGet.k (k := Sum.inr (txt [r'.1])) ((same_upd np) _ _ t.at_)
      refine ⟨d, _, rfl, got, x, rfl, ?_, _, rfl, ?_⟩
      · have := sn.len.1
        have := t.small
        exact Nat.le_of_lt (small1000 (by omega))
      · have l2 := sn.len.2.1
        rw [txt_len, l2]
        have := t.small
        exact ⟨Nat.le_of_lt (small1000 (by omega)), q _ (same_upd np)⟩
end


end T78

namespace T78
open PySem PySem.Spec PyProof.Rows L2 Tm
section
variable {P : Program} {w : World} {K : PySem.W.Frag} {mg : Str → Option Value} {base : Heap}
set_option maxHeartbeats 2000000 in
theorem ok_valueof {f fL fO fS fZ fI fM fX CI : Addr} {fd fdL fdO fdS fdZ fdI fdX : FuncData} (F : Fun K "value_of" "value_of" sValueOf f fd)
    (FL : Fun K "letters_of" "letters_of" sLettersOf fL fdL) (bL : Binds K fdL ["text"] []) (gL : mg "letters_of" = some (.ref fL))
    (FO : Fun K "sign_of" "sign_of" sSignOf fO fdO) (bO : Binds K fdO ["text"] []) (gO : mg "sign_of" = some (.ref fO))
    (FS : Fun K "signed" "signed" sSigned fS fdS) (bS : Binds K fdS ["turns", "letters"] []) (gS : mg "signed" = some (.ref fS))
    (FZ : Fun K "size_of" "size_of" sSizeOf fZ fdZ) (bZ : Binds K fdZ ["table"] []) (gZ : mg "size_of" = some (.ref fZ))
    (FI : Fun K "identity" "identity" sIden fI fdI) (bI : Binds K fdI ["size"] []) (gI : mg "identity" = some (.ref fI))
    (RM : FnR P w K mg base CX0 4 fM spMult) (kM : PySem.W.keepIn K (.ref fM) = true) (gM : mg "multiply" = some (.ref fM))
    (FX : Fun K "__init__" "InvalidWord.__init__" sIW fX fdX) (bX : Binds K fdX ["self", "position"] []) (T : OexC K CI) (iX : PySem.W.findIn K (.ref CI) "__init__" = some (some (.ref fX))) (tX : PySem.W.typeIn K (.ref fX) = some (.type "function"))
    (nc : PySem.W.findIn K (.ref CI) "code" = some none) (np : PySem.W.findIn K (.ref CI) "position" = some none) (gX : mg "InvalidWord" = some (.ref CI))
    (ml : mg "len" = none) (mm : mg "min" = none) (mli : mg "list" = none) (me : mg "enumerate" = none) :
    FnOk P w K mg base (L2.CX P w) 5 f fd ["table", "word"] (spValue CI) := by
  have GL : FnOk P w K mg base CX0 1 fL fdL ["text"] spLetters := ok_letters FL
  have GO : FnOk P w K mg base CX0 2 fO fdO ["text"] spSignOf := ok_signof FO FL bL gL ml
  have GS : FnOk P w K mg base CX0 1 fS fdS ["turns", "letters"] spSigned := ok_signed FS
  have GZ : FnOk P w K mg base CX0 2 fZ fdZ ["table"] spSizeOf := ok_sizeof FZ FL bL gL ml mm mli
  have GI : FnOk P w K mg base CX0 1 fI fdI ["size"] spIden := ok_iden FI
  have GX : FnOk P w K mg base CX0 1 fX fdX ["self", "position"] (spErr CI "invalidword" "position") := ok_iw FX T nc np
  refine F.okX scValueOf (fun vs H Q E h => ?_) (fun cdv A outer s H vs Q E hr h => ?_)
  · obtain ⟨d, n, rows, word, rfl, _⟩ := h
    rfl
  · obtain ⟨d, n, rows, word, rfl, tb, lw, ll, good, bad⟩ := h
    have hr1 : Room 1 _ := hr.mono (by decide)
    have hr2 : Room 2 _ := hr.mono (by decide)
    refine ⟨_, pss_cons (ps_set (i := 2) scValueOf.nd rfl (.inl rfl) (pe_call GL hr1 (by rfl) gL FL.kp bL .nil pass0 (pa_cons (pv 1) pa_nil)))
      (pss_cons (ps_for (passes_of rfl) rfl (pi_enumX (by rfl) me (pa_cons (pv 2) pa_nil)) (pg_tup rfl (pgs_cons (pg_name (i := 3) scValueOf.nd rfl (.inl rfl)) (pgs_cons (pg_name (i := 4) scValueOf.nd rfl (.inl rfl)) pgs_nil)))
        (pss_one (ps_if (pt_cmp (pc_dnotin (hu_of hr) (pv 4) (pv 0))) (pss_one (ps_raise rfl (takes_of rfl rfl rfl rfl) (pmk_oex T iX tX GX hr2 bX .nil pass0 (by rfl) gX (pa_cons (pv 3) pa_nil)))) pss_nil)))
      (pss_cons (ps_set (i := 5) scValueOf.nd rfl (.inl rfl) (pe_op op_cat (pe_lst (pa_cons (pe_call GI hr1 (by rfl) gI FI.kp bI .nil pass0 (pa_cons (pe_call GZ hr2 (by rfl) gZ FZ.kp bZ .nil pass0 (pa_cons (pv 0) pa_nil)) pa_nil)) pa_nil))
        (pe_lc (own := [("letter", 4)]) (g := gName 4) (tt := tYes) rfl scValueOf.nd (pi_str (pv 2)) (blkOk_by (own := [("letter", 4)]) (N := ["table", "word", "letters", "position", "letter", "strings", "product"]) (sc := defScope sValueOf) (by decide +kernel)) (fun _ _ _ _ _ => pg_name (i := 4) scValueOf.nd rfl (Or.inl rfl)) (fun _ _ _ _ _ => pts_nil)
          (fun _ _ _ _ _ => pe_dget (hu_of hr) (pv 0) (pv 4) (fun _ _ => rfl)))))
      (pss_cons (ps_set (i := 6) scValueOf.nd rfl (.inl rfl) (StX.pe_callS1 RM hr kM (by rfl) gM pass0 (pv 5)))
      (pss_one (ps_ret (pe_call GS hr1 (by rfl) gS FS.kp bS .nil pass0 (pa_cons (pe_op op_add (pe_call GO hr2 (by rfl) gO FO.kp bO .nil pass0 (pa_cons (pv 1) pa_nil)) (pe_call GO hr2 (by rfl) gO FO.kp bO .nil pass0 (pa_cons (pv 6) pa_nil))) (pa_cons (pe_call GL hr1 (by rfl) gL FL.kp bL .nil pass0 (pa_cons (pv 6) pa_nil)) pa_nil)))))))), ?_⟩
    refine ⟨_, rfl, word, rfl, Nat.le_of_lt (small1000 (by omega)), ?_⟩
    refine ⟨_, rfl, lettersL word, rfl, ?_⟩
    refine for_it (walk_enumX (cs := lettersL word)) (fun i σ H' => ∃ y3 y4 : Option V, σ = [some (.ref d), some (tv word), some (tv (lettersL word)), y3, y4, none, none] ∧ Same H H' ∧ goodW rows ((lettersL word).take i))
      ⟨none, none, rfl, Same.refl H, fun c hc => by cases hc⟩ (fun _ _ _ _ _ => trivial) ?_ ?_
    · rintro i v σ H1 H2 hi ⟨y3, y4, rfl, s1, here⟩ ⟨T1, c, rfl, nT, rfl, hc⟩
      refine ⟨T1, _, rfl, SqT.of upd_same, rfl, _, _, rfl, _, _, rfl, rfl, ?_⟩
      have at2 : (upd H1 T1 (.tup [.int (i : Nat), sig c])) d = some (.dK (rowsK rows)) := (same_upd nT) _ _ (s1 _ _ tb.at_)
      refine ⟨_, rfl, _, rfl, d, _, rfl, DGet.k (k := Sum.inr (txt [c])) at2, _, rfl, ?_⟩
      rw [rowsK_at]
      have s2 := s1.trans (same_upd (o := .tup [.int (i : Nat), sig c]) nT)
      cases e : rows.lookup c with
      | some x =>
        refine iteF ⟨_, _, rfl, s2, ?_⟩
        intro c' hc'
        rw [List.take_succ, hc] at hc'
        rcases List.mem_append.mp hc' with hc' | hc'
        · exact here c' hc'
        · rw [List.mem_singleton.mp hc']
          exact ⟨x, e⟩
      | none =>
        refine iteT (made_err ⟨_, rfl, _, rfl, fun H3 dd s3 nd h3 => ?_⟩ ?_)
        · exact bad i c hc e here H3 dd (s2.trans s3) (s2.free nd) h3
        · rintro R S imp ⟨v, hv, h⟩
          exact ⟨v, hv, imp _ _ h⟩
    · rintro σ H1 ⟨y3, y4, rfl, s1, here⟩
      rw [List.take_length] at here
      have few : sizeN n rows ≤ 900 := by
        have := tb.small
        unfold sizeN
        split
        · omega
        · exact this
      refine ⟨_, rfl, d, n, rows, rfl, tb.same s1, fun H2 s2 => ?_⟩
      refine ⟨sizeN n rows, rfl, few, (by show 1 ≤ sizeLine; decide), fun l1 nl1 => ?_⟩
      have s3 := (s1.trans s2).trans (same_upd (o := .lst [tv (List.replicate (sizeN n rows) 49)]) nl1)
      have h1 : (upd H2 l1 (.lst [tv (List.replicate (sizeN n rows) 49)])) l1 = some (.lst [tv (List.replicate (sizeN n rows) 49)]) := upd_same
      generalize upd H2 l1 (.lst [tv (List.replicate (sizeN n rows) 49)]) = H3 at s3 h1 ⊢
      refine ⟨_, rfl, _, rfl, fun D nD => ?_⟩
      have hsz : (txt (lettersL word)).cps.size = (lettersL word).length := txt_len _
      refine lc_it (walk_str (z := txt (lettersL word))) (fun i J => Same H3 J ∧ J D = some (.lst ((strsOf rows ((lettersL word).take i)).map tv))) ⟨same_upd nD, upd_same⟩ (fun _ _ _ _ => trivial) ?_ ?_
      · rintro i v J J' hi ⟨sJ, hD⟩ ⟨rfl, c, hc, rfl⟩
        rw [hsz] at hi
        have ec := at_txt hc
        obtain ⟨x, hx⟩ := here c (List.mem_of_getElem? ec)
        have look : valV (rowsK rows) (Sum.inr (txt [c])) = some (tv x) := by rw [rowsK_at, hx]; rfl
        have got : DGet J' d (.str (txt [c])) (some (tv x)) := look ▸ DGet.k (k := Sum.inr (txt [c])) (sJ _ _ (s3 _ _ tb.at_))
        refine ⟨rfl, ?_⟩
        refine ⟨_, rfl, _, rfl, d, _, rfl, got, _, hD, ?_, same_put sJ nD, ?_⟩
        · have := strs_len rows ((lettersL word).take i)
          rw [List.length_take] at this
          rw [List.length_map]
          exact small1000 (by omega)
        · rw [upd_same, List.take_succ, ec]
          unfold strsOf
          rw [List.filterMap_append, List.map_append]
          simp [hx]
      · rintro J ⟨sJ, hD⟩
        rw [hsz, List.take_length] at hD
        have sn := strs_sn tb.all (lettersL word)
        have len := strs_len rows (lettersL word)
        refine ⟨l1, D, _, _, rfl, rfl, sJ _ _ h1, hD, ?_, fun p np => ?_⟩
        · rw [List.length_map]
          exact Nat.le_of_lt (small1000 (by show 1 + _ ≤ 1000; omega))
        refine ⟨_, rfl, p, _, rfl, .inr (SqL.of upd_same), ?_⟩
        show spMult ((List.replicate (sizeN n rows) 49 :: strsOf rows (lettersL word)).map tv) _ _ _
        refine ⟨sizeN n rows, _, rfl, few, by rw [List.length_cons]; omega, ?_, fun H5 s5 => ?_⟩
        · intro x hx
          rcases List.mem_cons.mp hx with rfl | hx
          · exact Sn.one _
          · exact sn x hx
        have sp : Sn (sizeN n rows) (prodL n rows word) := Sn.fold (Sn.one _) sn
        have lp : (prodL n rows word).length ≤ 901 := by have := sp.len.1; omega
        have lq : (lettersL (prodL n rows word)).length ≤ 900 := by rw [sp.len.2.1]; exact few
        have hs : (prodL n rows word).length ≤ sizeLine := Nat.le_of_lt (small1000 (by omega))
        refine ⟨_, rfl, word, rfl, Nat.le_of_lt (small1000 (by omega)), _, rfl, prodL n rows word, rfl, hs, _, _, rfl, rfl, _, rfl, prodL n rows word, rfl, hs, ?_⟩
        refine ⟨_, _, rfl, small1000 (by omega), ?_⟩
        exact good here H5 ((s3.trans sJ).trans ((same_upd np).trans s5))
end


end T78

set_option maxHeartbeats 2000000
/-! A method of an ordinary class that begins with super().m(..). -/
namespace Tm
open PySem PySem.Spec PyProof.Rows L2 NdefX
/-- what the text tells: the def's cell holds the class D, C's next m behind D is the def f2 -/
structure Sup (P : Program) (K : PySem.W.Frag) (mg : Str → Option Value) (cc cda D C f2 : Addr) (m : Str) : Prop where
  code : ∃ (c : Value) (d : Option Addr) (vs : Array Value) (sl : Array (Option Value)) (file : Str) (tf : Tok), K.lookup cda = some ⟨c, d, .fields vs, sl⟩ ∧ vs[2]? = some (.str file tf) ∧ ((P.main.file : Str) == file) = true
  cell : ∃ (c : Value) (d : Option Addr) (sl : Array (Option Value)), K.lookup cc = some ⟨c, d, .cell (some (.ref D)), sl⟩
  cls : ∃ cd, PySem.W.clsIn K D = some cd
  sub : PySem.W.mroIn K C (.ref D) = some true
  word : mg "super" = none
  any : PySem.W.nsIn K cStatics "thirdparty.any" = some none
  next : PySem.W.ks_superIn K C D m = some (some (.ref f2))
  typ : PySem.W.typeIn K (.ref f2) = some (.type "function")
  fn : PySem.W.fnIn K f2 = true
  top : (P.main.scope.names.lookup ("super" : Str)).isSome = false
/-- an object that the written part tells is there -/
theorem cls_there {K : PySem.W.Frag} {h : Heap} {D : Addr} {cd : ClassData} (inK : K.In h) (told : PySem.W.clsIn K D = some cd) : ∃ o, h.get? D = some o ∧ o.data = .cls cd := by
  cases found : K.lookup D with
  | none => simp [PySem.W.clsIn, found] at told
  | some o =>
    refine ⟨o, inK _ _ found, ?_⟩
    obtain ⟨c, di, dt, sl⟩ := o
    cases dt <;> simp [PySem.W.clsIn, found] at told
    exact congrArg _ told
theorem fn_there {K : PySem.W.Frag} {h : Heap} {f : Addr} (inK : K.In h) (told : PySem.W.typeIn K (.ref f) = some (.type "function")) : ∃ o, h.get? f = some o ∧ o.cls = .type "function" := by
  obtain ⟨o, found, same⟩ := Option.map_eq_some_iff.mp (show (K.lookup f).map (·.cls) = some (.type "function") from told)
  exact ⟨o, inK _ _ found, same⟩
theorem bootSuper : bootBuiltins "super" = some (.type "super") := by decide +kernel
section
variable {X : Cx} {pins : List (Addr × Obj)} {σ : L2.St} {H : Hp} {s : Shared} {qual : Str} {scope : Scope} {L f cc cda D C f2 x dx : Addr} {m : Str} {fd fd2 : FuncData} {ar : Arg} {ps2 : List Str} {sp2 : Sp} {fs : List (Str × V)} {e : Expr} {es : List Expr}
  {t : TA} {Q : VK} {body : List Stmt} {k : Nat} {p0 p1 apos pos : Pos} {pl : Sem Bool}
theorem run_super (T : Sup X.prog X.K X.mg cc cda D C f2 m) (henv : X.env = PySem.W.ksEnv qual scope L f (.ref cda) cc) (hf : ∃ (oc : Value) (od : Option Addr) (sl : Array (Option Value)), X.K.lookup f = some ⟨oc, od, .func fd, sl⟩)
    (hp : (fd.params.posonlyargs ++ fd.params.args).head? = some ar) (h0 : X.N[0]? = some ar.arg) (hks : scope.names.lookup ("super" : Str) = some .globalImplicit) (hkc : scope.names.lookup ("__class__" : Str) = some .free) (hka : scope.names.lookup ar.arg = some .local)
    (F2 : FnOk X.prog X.w X.K X.mg X.base CX0 k f2 fd2 ps2 sp2) (hb2 : Binds X.K fd2 ps2 []) (hr : Room k X.A) (ha : PA X (e :: es) t) (I : Inv X pins σ H s) (hs : σ[0]? = some (some (.ref x))) (hx : H x = some (.ins C dx fs))
    (h : t σ H fun ws H1 => sp2 (.ref x :: ws) H1 Q E0) (hm : (m == ("__class__" : Str)) = false)
    (hst : starEach (e :: es) X.env = (false, eval e X.env) :: starEach es X.env) (hpl : (backTo pos (starEach es X.env)).any (·.1) = false)
    (he : eval (.Call (.Attribute (.Call (.Name "super" p0) [] [] p1) m apos) (e :: es) [] pos) X.env = (do
      let ov ← attributeBase (.Call (.Name "super" p0) [] [] p1) m X.env (eval (.Call (.Name "super" p0) [] [] p1) X.env)
      standAt apos.atName
      let (f, first) ← holding [ov] (getMethod ov m pl)
      callWith pos f first (backTo pos (starEach (e :: es) X.env)) [])) :
    _root_.PySem.wpAt (model X.prog X.w) X.A (.func body X.env) (eval (.Call (.Attribute (.Call (.Name "super" p0) [] [] p1) m apos) (e :: es) [] pos) X.env) (EP X pins σ Q) X.xe s := by
  have hk := I.ok.kind
  have KX := I.kIn
  obtain ⟨oc, od, sl, lf⟩ := hf
  obtain ⟨c1, d1, vs, sl1, file, tf, lc, hvs, hfile⟩ := T.code
  obtain ⟨c2, d2, sl2, lcell⟩ := T.cell
  obtain ⟨cdD, hcD⟩ := T.cls
  have hkS : X.env.kindOf "super" = some .globalImplicit := by rw [henv]; exact hks
  have hkC : X.env.kindOf "__class__" = some .free := by rw [henv]; exact hkc
  have hkA : X.env.kindOf ar.arg = some .local := by rw [henv]; exact hka
  have vis : Vis X.env.scope ar.arg := .inl (by rw [henv]; exact hka)
  obtain ⟨_, _, _, hxo, _⟩ := I.hok x _ hx
  obtain ⟨oD, objD, datD⟩ := cls_there KX hcD
  obtain ⟨mm, hn, hl⟩ := I.loc
  obtain ⟨u, ru, lu⟩ := hl 0 ar.arg _ h0 hs vis
  obtain rfl : u = Value.ref x := ru
  have hself : mm ar.arg = some (.ref x) := by
    rcases lu with ⟨_, q⟩ | ⟨q, _⟩
    · exact q
    · rcases q with q | q <;> rw [hkA] at q <;> cases q
  obtain ⟨mb, b1, b2⟩ := I.mod.blt
  refine ks_wpAt_MethodCall (pl := pl) ?_ he
  refine ks_wpAt_super_base (env := X.env) hkS hkC hm (by rw [henv]) (KX _ _ lf) rfl hp (by rw [henv]) (KX _ _ lc) rfl hvs hfile T.top ?_
  refine PySem.W.ks_loadName_global hk hkS (Calls.loadGlobal_builtin (by rw [I.ok.glob]; exact I.mod.glob.keeps I.bk) T.word (by rw [I.ok.blt]; exact b1.keeps I.bk) ((b2 _ (by decide)).trans bootSuper) ⟨rfl, ?_⟩)
  refine wpAny_loadName_free hk hkC (c := cc) (v := .ref D) (by rw [henv]; rfl) ⟨_, KX _ _ lcell, rfl⟩ ?_
  refine wpAny_loadName_local hk hkA hn hself ?_
  obtain ⟨heap0, gens0, drawn0, toks0, os0⟩ := s
  refine ks_wpAny_isType_cls objD datD ⟨rfl, ?_⟩
  refine ks_wpAny_call_super objD datD hxo rfl (fun c z => nomatch z) (PySem.W.looks_mroIn KX T.sub) (fun h' e1 k1 => ?_)
  have I1 : Inv X pins σ H ⟨h', gens0, drawn0, toks0, os0⟩ := I.kept k1
  have KX1 := I1.kIn
  obtain ⟨cd, whose, behind⟩ := Option.bind_eq_some_iff.mp (show (PySem.W.clsIn X.K C).bind (fun cd => PySem.W.alongIn X.K m ((cd.mro.dropWhile (· != Value.ref D)).drop 1)) = some (some (Value.ref f2)) from T.next)
  obtain ⟨of, made, isF⟩ := fn_there KX1 T.typ
  obtain ⟨_, O, _⟩ := ins_get I1.hok hx
  obtain ⟨_, inst, _⟩ := O.look
  have mro : PySem.W.Looks (model X.prog X.w) h' (mroOf (.ref C)) cd.mro := (PySem.W.looks_clsIn KX1 whose).andThen .now
  refine ks_wpAny_getMethod_super e1 (PySem.W.looks_opaque KX1 T.any) mro rfl KX1 behind made isF (PySem.W.ks_ne KX1 inst whose) hm ?_
  have I2 : Inv X ((h'.objs.size, PySem.W.methodObj (.ref f2) (.ref x)) :: pins) σ H ⟨h'.push (PySem.W.methodObj (.ref f2) (.ref x)), gens0, drawn0, toks0 + 1, os0⟩ := ClX.met_new I1
  refine ClX.callwith_cm I2 (ClX.base_none I1 (Nat.le_refl _)) T.fn (thn (ha.run pos _ _ σ H _ I2 h) fun us s3 ⟨vs, H2, I3, rv, q2⟩ => ⟨⟨ClX.pin_at I3, I3.kIn⟩, ?_⟩) hst hpl
  exact ClX.run_cm ((F2.raw hb2 .nil).imp (sp' := sp2) fun vs H Q E h => by rw [List.append_nil]; exact h) hr pass0 I3 rv q2
end
/-- the def's object, its closure the one cell -/
structure FunS (K : PySem.W.Frag) (x qual : Str) (st : Stmt) (f cda cc : Addr) (fd : FuncData) : Prop where
  ex : ∃ (oc : Value) (od : Option Addr) (kV doc pm : Value) (an : Option Addr) (ct : Value) (osl : Array (Option Value)),
    fd = PySem.W.ksFn x qual (defArgs st) (defBody st) (defScope st) .none kV doc pm an (.ref cda) ct cc ∧ K.lookup f = some ⟨oc, od, .func fd, osl⟩ ∧ PySem.W.codeIn K (.ref cda) qual = true
  stays : PySem.W.keepIn K (.ref f) = true
def nfS (x qual : Str) (st : Stmt) (cda cc : Addr) : NF := ⟨x, qual, defArgs st, defBody st, defScope st, [("__class__", cc)], cda⟩
section
variable {P : Program} {w : World} {K : PySem.W.Frag} {mg : Str → Option Value} {base : Heap} {x qual : Str} {st : Stmt} {f cda cc D C f2 : Addr} {fd fd2 : FuncData} {N ps ps2 : List Str} {sp sp2 : Sp} {m : Str} {ar : Arg} {k : Nat} {e : Expr} {es : List Expr} {rest : List Stmt} {p0 p1 apos pos epos : Pos}
/-- what a body leaves is what its call gives -/
theorem end_of {A : Around} {outer : List Env} {s s' : Shared} {H : Hp} {Q : VK} {E : XK} {F : NF} : ∀ {fl : Flow}, SP (ncx CX0 P w K mg base N F f A outer s H E) [] { nx := fun _ H' => Q .non H', rt := Q } fl s' → CE outer P w H s Q (match fl with | .ret v => v | _ => .none) s'
  | .ret _, ⟨v, _, H2, inv, same, q⟩ => ⟨v, H2, inv.os, inv.bare, inv.base, inv.hok, same, q⟩
  | .next, ⟨_, H2, inv, q⟩ => ⟨.non, H2, inv.os, inv.bare, inv.base, inv.hok, rfl, q⟩
  | .brk, ⟨_, _, _, q⟩ => False.elim q
  | .cont, ⟨_, _, _, q⟩ => False.elim q
/-- THE RULE: such a def by its body -/
theorem FunS.ok (F : FunS K x qual st f cda cc fd) (S : NScope N ps ["__class__"] (defScope st)) (T : Sup P K mg cc cda D C f2 m)
    (hbody : defBody st = .Expr (.Call (.Attribute (.Call (.Name "super" p0) [] [] p1) m apos) (e :: es) [] pos) epos :: rest)
    (hp : ((defArgs st).posonlyargs ++ (defArgs st).args).head? = some ar) (h0 : N[0]? = some ar.arg) (hks : (defScope st).names.lookup ("super" : Str) = some .globalImplicit) (hkc : (defScope st).names.lookup ("__class__" : Str) = some .free) (hka : (defScope st).names.lookup ar.arg = some .local)
    (F2 : FnOk P w K mg base CX0 k f2 fd2 ps2 sp2) (hb2 : Binds K fd2 ps2 []) (hm : (m == ("__class__" : Str)) = false) (len : ∀ vs H Q E, sp vs H Q E → vs.length = ps.length)
    (hst : ∀ env : Env, starEach (e :: es) env = (false, eval e env) :: starEach es env) (hpl : ∀ env : Env, (backTo pos (starEach es env)).any (·.1) = false)
    (he : ∀ env : Env, ∃ pl, eval (.Call (.Attribute (.Call (.Name "super" p0) [] [] p1) m apos) (e :: es) [] pos) env = (do
      let ov ← attributeBase (.Call (.Name "super" p0) [] [] p1) m env (eval (.Call (.Name "super" p0) [] [] p1) env)
      standAt apos.atName
      let (f, first) ← holding [ov] (getMethod ov m pl)
      callWith pos f first (backTo pos (starEach (e :: es) env)) []))
    (hint : ∀ env : Env, env.scope = defScope st → interactive env = false) (hsw : ∀ env : Env, swapsWith (.Call (.Attribute (.Call (.Name "super" p0) [] [] p1) m apos) (e :: es) [] pos) none epos.line env = pure false)
    (hrun : ∀ (A : Around) (outer : List Env) (s : Shared) (H : Hp) (vs : List V) (Q : VK) (E : XK), Room k (A.deeper (envF (nfS x qual st cda cc) f s.heap.objs.size)) → sp vs H Q E →
      ∃ t u, PA (ncx CX0 P w K mg base N (nfS x qual st cda cc) f A outer s H E) (e :: es) t ∧ PSs (ncx CX0 P w K mg base N (nfS x qual st cda cc) f A outer s H E) rest u ∧
        ∃ y dx fs, (startF N vs [none])[0]? = some (some (.ref y)) ∧ H y = some (.ins C dx fs) ∧
          t (startF N vs [none]) H fun ws H1 => sp2 (.ref y :: ws) H1 (fun _ H2 => u { nx := fun _ H' => Q .non H', rt := Q } (startF N vs [none]) H2) E0) :
    FnOk P w K mg base CX0 (k + 1) f fd ps sp := by
  obtain ⟨oc, od, kV, doc, pm, an, ct, osl, rfl, lk, hcd⟩ := F.ex
  refine ⟨len, fun A outer s H args us vs Q E room env0 bind rel ask => ?_⟩
  have long := len _ _ _ _ ask
  have inK : K.In s.heap := env0.mod.kin.keeps fun q ob there => (env0.bs q ob there).1
  have free_ : s.heap.NoLimit := env0.mod.nolimit.keeps fun q ob there => (env0.bs q ob there).1
  obtain ⟨c2, d2, sl2, lcell⟩ := T.cell
  have hcc := env0.bs _ _ (env0.mod.kin _ _ lcell)
  have CA : CellsAt (nfS x qual st cda cc).cl ["__class__"] [none] s.heap H := by
    refine ⟨rfl, fun y c q => ?_, fun y z c q1 q2 => ?_, fun i y q => ?_⟩
    · have q : (([("__class__", cc)] : List (Str × Addr))).lookup y = some c := q
      simp only [List.lookup] at q
      split at q
      · cases q
        exact ⟨hcc.2, _, _, hcc.1, rfl⟩
      · cases q
    · have q1 : (([("__class__", cc)] : List (Str × Addr))).lookup y = some c := q1
      have q2 : (([("__class__", cc)] : List (Str × Addr))).lookup z = some c := q2
      simp only [List.lookup] at q1 q2
      split at q1
      · rename_i b1
        split at q2
        · rename_i b2
          exact (beq_iff_eq.mp b1).trans (beq_iff_eq.mp b2).symm
        · cases q2
      · cases q1
    · match i, q with
      | 0, q =>
        cases q
        exact ⟨cc, rfl, fun v z => by cases z⟩
  refine ks_codeAny_call_defAt (fd := PySem.W.ksFn x qual (defArgs st) (defBody st) (defScope st) .none kV doc pm an (.ref cda) ct cc) (body := defBody st) (binds := ps.zip us) room.depth (inK _ _ lk) rfl free_ (PySem.W.codeRec_of inK hcd) rfl bind S.nocell
    (fun ⟨n, v⟩ hy => S.par n (List.of_mem_zip hy).1) (fun h₁ hns kp => ?_) S.co S.gen S.kind
  obtain ⟨t, u, ha, hu, y, dx, fs, hs, hy, q⟩ := hrun A outer s H vs Q E (room.deeper _) ask
  have I : Inv (ncx CX0 P w K mg base N (nfS x qual st cda cc) f A outer s H E) [] (startF N vs [none]) H { s with heap := h₁, toks := s.toks + (ps.zip us).length } := inv_startN S room.hd env0 long rel CA hns kp
  obtain ⟨pl, he⟩ := he (envF (nfS x qual st cda cc) f s.heap.objs.size)
  show _root_.PySem.wpAt _ _ (.func (defBody st) (envF (nfS x qual st cda cc) f s.heap.objs.size)) (execs (defBody st) (envF (nfS x qual st cda cc) f s.heap.objs.size)) _ _ _
  have R := run_super (X := ncx CX0 P w K mg base N (nfS x qual st cda cc) f A outer s H E) (body := defBody st) (p0 := p0) (p1 := p1) (apos := apos) (pos := pos) (pl := pl) T rfl ⟨_, _, _, lk⟩ hp h0 hks hkc hka F2 hb2 (room.deeper _) ha I hs hy q hm (hst _) (hpl _) he
  refine ks_wpAt_mono (Q := fun f s' => CE outer P w H s Q (match f with | .ret v => v | _ => .none) s') (E := (ncx CX0 P w K mg base N (nfS x qual st cda cc) f A outer s H E).xe) ?_ (fun fl s' z => by cases fl <;> exact z) (fun e s' z => z)
  rw [hbody] at R ⊢
  refine ks_wpAt_execs_cons (ks_wpAt_Expr_any (ks_wpAt_mono R (fun v s' ⟨v', H', J, _, q'⟩ => ?_) fun _ _ z => z) (hint _ rfl) (hsw _))
  exact wpAt_of_wpAny (wpAny_mono (hu.run [] s' (startF N vs [none]) H' _ J q') (fun _ _ left => end_of left) fun _ _ left => left)
end
end Tm

/-! An instance that is called, and one that is asked with in: by its own __call__, its own __contains__. -/
namespace Tm
open PySem PySem.Spec PyProof.Rows L2
/-! ### v in x -/
section
variable {X : Cx} {C f : Addr} {fd : FuncData} {ps : List Str} {sp : Sp} {k : Nat}
def rHas (C : Addr) (sp : Sp) : R2 := fun v o H Q => ∃ (y dy : Addr) (gs : List (Str × V)), o = .ref y ∧ H y = some (.ins C dy gs) ∧ sp [.ref y, v] H (fun r H' => ∃ b, r = .bl b ∧ Q (.bl b) H') E0
def rHasNo (C : Addr) (sp : Sp) : R2 := fun v o H Q => ∃ (y dy : Addr) (gs : List (Str × V)), o = .ref y ∧ H y = some (.ins C dy gs) ∧ sp [.ref y, v] H (fun r H' => ∃ b, r = .bl b ∧ Q (.bl (!b)) H') E0
variable (at_ : PySem.W.findIn X.K (.ref C) "__contains__" = some (some (.ref f))) (isF : PySem.W.isFn X.K (.ref f) = true) (promise : FnOk X.prog X.w X.K X.mg X.base CX0 k f fd ps sp) (room : Room k X.A) (binds : Binds X.K fd ps [])
include at_ isF promise room binds
theorem op_has : OpR X (compareOp .In) (rHas C sp) := by
  intro pins s σ H v o u w Q I rv ro ask
  obtain ⟨y, dy, gs, rfl, hy, ask⟩ := ask
  obtain rfl : w = Value.ref y := ro
  obtain ⟨_, O, _⟩ := ins_get I.hok hy
  obtain ⟨od, inst, _⟩ := O.look
  obtain ⟨m, fr⟩ := I.fr
  have run := run_fn (X := X) (us := [.ref y, u]) (vs := [.ref y, v]) (dvs := []) (ds := []) promise room binds .nil pass0 I (.cons rfl (.cons rv .nil)) ask
  refine PySem.W.in_K fr I.mod.kin inst at_ isF (thn run ?_)
  rintro r s' ⟨q, H', I', rq, b, rfl, given⟩
  obtain rfl : r = .bool b := rq
  exact wpAny_truthy_bool ⟨.bl b, H', I', rfl, given⟩
theorem op_hasNo : OpR X (compareOp .NotIn) (rHasNo C sp) := by
  intro pins s σ H v o u w Q I rv ro ask
  obtain ⟨y, dy, gs, rfl, hy, ask⟩ := ask
  obtain rfl : w = Value.ref y := ro
  obtain ⟨_, O, _⟩ := ins_get I.hok hy
  obtain ⟨od, inst, _⟩ := O.look
  obtain ⟨m, fr⟩ := I.fr
  have run := run_fn (X := X) (us := [.ref y, u]) (vs := [.ref y, v]) (dvs := []) (ds := []) promise room binds .nil pass0 I (.cons rfl (.cons rv .nil)) ask
  refine PySem.W.notIn_K fr I.mod.kin inst at_ isF (thn run ?_)
  rintro r s' ⟨q, H', I', rq, b, rfl, given⟩
  obtain rfl : r = .bool b := rq
  exact wpAny_truthy_bool ⟨.bl (!b), H', I', rfl, given⟩
end
/-! ### x(..) -/
/-- what the class tells: its __call__ is the def f -/
structure Calls_ (K : PySem.W.Frag) (C f : Addr) : Prop where
  at_ : PySem.W.findIn K (.ref C) "__call__" = some (some (.ref f))
  isF : PySem.W.isFn K (.ref f) = true
  fn : PySem.W.fnIn K f = true
section
variable {M : Model} {A : Around} {E : Value → Shared → Prop} {s : Shared} {K : PySem.W.Frag} {pos : Pos} {x dx C : Addr} {first : List Value} {Q : Value → Shared → Prop}
theorem callWith_inst {args : List (Bool × Sem Value)} {keywords : List (Option Str × Sem Value)} (plain : (args.any (·.1) || keywords.any (·.1.isNone)) = false)
    (h : wpAny M A (evalArgs (.ref x) true args keywords) (fun a s₁ => (∃ od, PySem.W.InstAt s₁.heap x (PySem.W.instObj C dx) C od) ∧ wpAny M A (call (.ref x) (first ++ a.pos) a.kw) Q E s₁) E s) : wpAny M A (callWith pos (.ref x) first args keywords) Q E s := by
  unfold callWith
  refine wpAny_bind (wpAny_holding (thn h ?_))
  rintro a s1 ⟨⟨od, inst⟩, go⟩
  refine wpAny_bind (wpAny_standAt ?_)
  simp only [plain]
  refine wpAny_bind ((PySem.W.kco_keeper (M := M) inst rfl).here ?_)
  refine wpAny_bind (wpAny_mono (wpAny_operateT go) (fun r s2 hr => ?_) fun _ _ z => z)
  exact wpAny_bind (wpAny_holding (wpAny_point (wpAny_pure hr)))
end
def tInst (C : Addr) (sp : Sp) (E : XK) (tv : TE) (t : TA) : TE := fun σ H Q => tv σ H fun v H1 => ∃ x dx fs, v = .ref x ∧ t σ H1 fun vs H2 => H2 x = some (.ins C dx fs) ∧ sp (.ref x :: vs) H2 Q E
def tInstK (C : Addr) (sp : Sp) (gV : List V → List V → List V) (E : XK) (tv : TE) (tk : TA) : TE := fun σ H Q => tv σ H fun v H1 => ∃ x dx fs, v = .ref x ∧ tk σ H1 fun zs H2 => H2 x = some (.ins C dx fs) ∧ sp (gV [.ref x] zs) H2 Q E
section
variable {X : Cx} {CX : CXT} {C f : Addr} {fd : FuncData} {ps ks : List Str} {sp : Sp} {k : Nat} {E : XK} {o e : Expr} {es : List Expr} {kws : List Keyword} {tv : TE} {t tk : TA} {pos : Pos} {g : List Value → List Value → List Value} {gV : List V → List V → List V}
theorem inst_of {pins : List (Addr × Obj)} {σ : L2.St} {H : Hp} {s : Shared} {x dx : Addr} {fs : List (Str × V)} (I : Inv X pins σ H s) (hx : H x = some (.ins C dx fs)) : ∃ od, PySem.W.InstAt s.heap x (PySem.W.instObj C dx) C od := by
  obtain ⟨_, O, _⟩ := ins_get I.hok hx
  obtain ⟨od, inst, _⟩ := O.look
  exact ⟨_, inst⟩
theorem run_inst {pins : List (Addr × Obj)} {σ : L2.St} {H : Hp} {s : Shared} {x dx : Addr} {fs : List (Str × V)} {us : List Value} {vs : List V} {Q : VK} (c : Calls_ X.K C f) (F : FnOk X.prog X.w X.K X.mg X.base CX k f fd ps sp) (hr : Room k X.A) (hb : Binds X.K fd ps []) (hx : Passes CX X E)
    (I : Inv X pins σ H s) (hi : H x = some (.ins C dx fs)) (r : Vals vs us) (h : sp (.ref x :: vs) H Q E) : wpAny (model X.prog X.w) X.A (call (.ref x) us) (EP X pins σ Q) X.xe s := by
  obtain ⟨od, inst⟩ := inst_of I hi
  have long : ((Value.ref x :: us) ++ []).length = ps.length := by
    rw [List.append_nil, ← F.len _ _ _ _ h, List.length_cons, List.length_cons, r.length]
  have bind := hb s (.ref x :: us) I.kIn long
  rw [List.append_nil] at bind
  refine wpAny_call (PySem.W.kco_code I.kIn inst rfl c.at_ c.isF c.fn (codeAny_mono (F.run X.A X.stack s H ⟨.ref x :: us, []⟩ (.ref x :: us) (.ref x :: vs) Q E hr I.env0 bind (.cons rfl r) h) fun r s' hq => ?_))
  cases r with
  | error thrown => exact hx pins σ H s thrown s' I hq
  | ok fl =>
    cases fl with
    | ret u => exact I.after hq
    | next => exact False.elim hq
    | brk => exact False.elim hq
    | cont => exact False.elim hq
theorem run_instK {pins : List (Addr × Obj)} {σ : L2.St} {H : Hp} {s : Shared} {x dx : Addr} {fs : List (Str × V)} {ws : List Value} {zs : List V} {Q : VK} (c : Calls_ X.K C f) (F : FnOk X.prog X.w X.K X.mg X.base CX k f fd ps sp) (hr : Room k X.A) (hb : KBinds X.K fd ps ks g gV) (hx : Passes CX X E)
    (I : Inv X pins σ H s) (hi : H x = some (.ins C dx fs)) (r : Vals zs ws) (h : sp (gV [.ref x] zs) H Q E) : wpAny (model X.prog X.w) X.A (call (.ref x) [] (ks.zip ws)) (EP X pins σ Q) X.xe s := by
  obtain ⟨od, inst⟩ := inst_of I hi
  have r2 : Vals (gV [.ref x] zs) (g [.ref x] ws) := hb.rel (.cons rfl .nil) r
  have long : (g [.ref x] ws).length = ps.length := by rw [← r2.length]; exact F.len _ _ _ _ h
  refine wpAny_call (PySem.W.kco_code I.kIn inst rfl c.at_ c.isF c.fn (codeAny_mono (F.run X.A X.stack s H ⟨[.ref x], ks.zip ws⟩ (g [.ref x] ws) (gV [.ref x] zs) Q E hr I.env0 (hb.to s [.ref x] ws I.kIn long) r2 h) fun r s' hq => ?_))
  cases r with
  | error thrown => exact hx pins σ H s thrown s' I hq
  | ok fl =>
    cases fl with
    | ret u => exact I.after hq
    | next => exact False.elim hq
    | brk => exact False.elim hq
    | cont => exact False.elim hq
/-- x(e, ..) -/
theorem pe_inst (c : Calls_ X.K C f) (F : FnOk X.prog X.w X.K X.mg X.base CX k f fd ps sp) (hr : Room k X.A) (hb : Binds X.K fd ps []) (hx : Passes CX X E) (ho : PE X o tv) (ha : PA X (e :: es) t)
    (he : starEach (e :: es) X.env = (false, eval e X.env) :: starEach es X.env := by rfl) (hpl : (backTo pos (starEach es X.env)).any (·.1) = false := by rfl)
    (ht : eval (.Call o (e :: es) [] pos) X.env = (eval o X.env >>= fun f => callWith pos f [] (backTo pos (starEach (e :: es) X.env)) (backToKw pos (keywordEach [] X.env))) := by rfl) : PE X (.Call o (e :: es) [] pos) (tInst C sp E tv t) := by
  refine ⟨fun pins s σ H Q inv h => ?_⟩
  rw [ht]
  refine wpAny_bind (thn (ho.run pins s σ H _ inv h) fun u s1 ⟨v, H1, I1, rv, x, dx, fs, ev, q1⟩ => ?_)
  subst ev
  obtain rfl : u = Value.ref x := rv
  have hpl2 : ((backTo pos (starEach (e :: es) X.env)).any (·.1) || (backToKw pos (keywordEach [] X.env)).any (·.1.isNone)) = false := by
    rw [he]
    show (false || (backTo pos (starEach es X.env)).any (·.1) || false) = false
    rw [hpl] <;> rfl
  refine callWith_inst (C := C) (dx := dx) hpl2 ?_
  have hev := thn (ha.run pos pins s1 σ H1 _ I1 q1) fun us s2 z => (show (fun us s2 => (∃ od, PySem.W.InstAt s2.heap x (PySem.W.instObj C dx) C od) ∧ wpAny (model X.prog X.w) X.A (call (.ref x) ([] ++ us) []) (EP X pins σ Q) X.xe s2) us s2 by
    obtain ⟨vs, H2, I2, r, hi, q⟩ := z
    exact ⟨inst_of I2 hi, run_inst c F hr hb hx I2 hi r q⟩)
  rw [he] at hev ⊢
  exact PySem.Calls.evalArgs_plain hev
/-- x(k = e, ..) -/
theorem pe_instK (c : Calls_ X.K C f) (F : FnOk X.prog X.w X.K X.mg X.base CX k f fd ps sp) (hr : Room k X.A) (hb : KBinds X.K fd ps ks g gV) (hx : Passes CX X E) (ho : PE X o tv) (hkw : PK X kws tk)
    (hall : (backToKw pos (keywordEach kws X.env)).all (·.1.isSome) = true := by rfl) (hks : (backToKw pos (keywordEach kws X.env)).filterMap (·.1) = ks := by rfl)
    (hpl : ((backTo pos (starEach [] X.env)).any (·.1) || (backToKw pos (keywordEach kws X.env)).any (·.1.isNone)) = false := by rfl)
    (ht : eval (.Call o [] kws pos) X.env = (eval o X.env >>= fun f => callWith pos f [] (backTo pos (starEach [] X.env)) (backToKw pos (keywordEach kws X.env))) := by rfl) : PE X (.Call o [] kws pos) (tInstK C sp gV E tv tk) := by
  refine ⟨fun pins s σ H Q inv h => ?_⟩
  rw [ht]
  refine wpAny_bind (thn (ho.run pins s σ H _ inv h) fun u s1 ⟨v, H1, I1, rv, x, dx, fs, ev, q1⟩ => ?_)
  subst ev
  obtain rfl : u = Value.ref x := rv
  refine callWith_inst (C := C) (dx := dx) hpl ?_
  refine evalArgs_kw2_nil hall (thn (hkw.run pos pins s1 σ H1 _ I1 q1) fun ws s2 ⟨zs, H2, I2, rz, hi, q2⟩ => ⟨inst_of I2 hi, ?_⟩)
  rw [hks]
  exact run_instK c F hr hb hx I2 hi rz q2
end
end Tm

/-! Certificates: what their methods promise. -/
namespace Tm
open PySem PySem.Spec PyProof.Rows L2 NdefX
/-- what a table certificate of a web and a table holds -/
def certF (v : V) (d : Addr) : List (Str × V) := putF "rows" (.ref d) (putF "shown" v [])
theorem ne_rs : ¬ (("shown" : Str) = "rows") := by decide +kernel
theorem certF_rows (v : V) (d : Addr) : (certF v d).lookup ("rows" : Str) = some (.ref d) := by
  unfold certF
  rw [lookup_putF, if_pos rfl]
def spHold (CT : Addr) : Sp := fun vs H Q _ => ∃ (x dx : Addr) (v : V), vs = [.ref x, v] ∧ H x = some (.ins CT dx []) ∧ Q .non (upd H x (.ins CT dx (putF "shown" v [])))
def spTInit (CT : Addr) : Sp := fun vs H Q _ => ∃ (x dx t : Addr) (v : V) (kvs : List (Key × V)), vs = [.ref x, v, .ref t] ∧ H x = some (.ins CT dx []) ∧ H t = some (.dK kvs) ∧
  ∀ H' d, Kp x H H' → H d = none → H' d = some (.dK kvs) → H' x = some (.ins CT dx (certF v d)) → Q .non H'
def spTCall (CT CI : Addr) : Sp := fun vs H Q E => ∃ (x dx d : Addr) (v z : V), vs = [.ref x, z] ∧ H x = some (.ins CT dx (certF v d)) ∧ spValue CI [.ref d, z] H Q E
def spTRows (CT : Addr) : Sp := fun vs H Q _ => ∃ (x dx d : Addr) (v : V) (kvs : List (Key × V)), vs = [.ref x] ∧ H x = some (.ins CT dx (certF v d)) ∧ H d = some (.dK kvs) ∧ ∀ p, H p = none → Q (.ref p) (upd H p (.dK kvs))
def spWHas (C : Addr) : Sp := fun vs H Q _ => ∃ (x : Addr) (z : Str) (ms : List (Int × Int)) (es : List Edg), vs = [.ref x, .str z] ∧ WebAt C H x ms es ∧ Q (.bl (decide (z ∈ es.map fun e => txt [e.letter]))) H
section
variable {K : PySem.W.Frag} {x qual : Str} {st : Stmt} {f cda cc : Addr} {fd : FuncData} {ps : List Str}
theorem FunS.binds (F : FunS K x qual st f cda cc fd)
    (h : ∀ (kV doc pm : Value) (an : Option Addr) (ct : Value) (us : List Value), us.length = ps.length → bindArgs (PySem.W.ksFn x qual (defArgs st) (defBody st) (defScope st) .none kV doc pm an (.ref cda) ct cc) ⟨us, []⟩ = pure (ps.zip us)) : Binds K fd ps [] := by
  obtain ⟨oc, od, kV, doc, pm, an, ct, osl, rfl, lk, hcd⟩ := F.ex
  exact .all (h kV doc pm an ct)
theorem funS_mk {oc : Value} {od an : Option Addr} {osl : Array (Option Value)} {kV doc pm ct : Value} (l : K.lookup f = some ⟨oc, od, .func (PySem.W.ksFn x qual (defArgs st) (defBody st) (defScope st) .none kV doc pm an (.ref cda) ct cc), osl⟩)
    (c : PySem.W.codeIn K (.ref cda) qual = true) (k : PySem.W.keepIn K (.ref f) = true) : FunS K x qual st f cda cc (PySem.W.ksFn x qual (defArgs st) (defBody st) (defScope st) .none kV doc pm an (.ref cda) ct cc) := ⟨⟨oc, od, kV, doc, pm, an, ct, osl, rfl, l, c⟩, k⟩
end
end Tm

namespace T78
open PySem PySem.Spec PyProof.Rows L2 Tm
open ClX NdefX
abbrev sCInit : Stmt := inClass (topS 41) 1
theorem scCInit : FnScope ["self", "web"] ["self", "web"] (defScope sCInit) := ⟨rfl, rfl, rfl, by decide +kernel, rfl, by decide +kernel, by decide +kernel⟩
abbrev sTInit : Stmt := inClass (topS 42) 1
theorem scTInit : NScope ["self", "web", "table", "__class__"] ["self", "web", "table"] ["__class__"] (defScope sTInit) := nscope_by (by decide +kernel)
abbrev sTCall : Stmt := inClass (topS 42) 2
theorem scTCall : FnScope ["self", "word"] ["self", "word"] (defScope sTCall) := ⟨rfl, rfl, rfl, by decide +kernel, rfl, by decide +kernel, by decide +kernel⟩
abbrev sTRows : Stmt := inClass (topS 42) 3
theorem scTRows : FnScope ["self"] ["self"] (defScope sTRows) := ⟨rfl, rfl, rfl, by decide +kernel, rfl, by decide +kernel, by decide +kernel⟩
abbrev sWHas : Stmt := inClass (topS 24) 6
theorem scWHas : FnScope ["self", "x"] ["self", "x"] (defScope sWHas) := ⟨rfl, rfl, rfl, by decide +kernel, rfl, by decide +kernel, by decide +kernel⟩
/-- what the text tells of the class of table certificates -/
structure CertT (K : PySem.W.Frag) (CT : Addr) : Prop where
  cl : Cls K CT
  nS : NoAttr K CT "shown"
  nR : NoAttr K CT "rows"
section
variable {P : Program} {w : World} {K : PySem.W.Frag} {mg : Str → Option Value} {base : Heap}
theorem ok_cinit {f CT : Addr} {fd : FuncData} (F : Fun K "__init__" "Certificate.__init__" sCInit f fd) (Z : CertT K CT) : FnOk P w K mg base CX0 1 f fd ["self", "web"] (spHold CT) := by
  refine F.ok scCInit (fun vs H Q E h => ?_) (fun cdv A outer s H vs Q E hr h => ?_)
  · obtain ⟨x, dx, v, rfl, _⟩ := h
    rfl
  · obtain ⟨x, dx, v, rfl, hx, hand⟩ := h
    refine ⟨_, pss_one (ps_fld (pv 0) (pv 1) rfl), ?_⟩
    exact ⟨_, rfl, _, rfl, x, CT, dx, [], rfl, hx, Z.cl, Z.nS, (by show 0 < 1000; decide), hand⟩
theorem ok_tinit {f f2 cc cda CT : Addr} {fd fd2 : FuncData} (F : FunS K "__init__" "TableCertificate.__init__" sTInit f cda cc fd) (T : Sup P K mg cc cda CT CT f2 "__init__") (F2 : Fun K "__init__" "Certificate.__init__" sCInit f2 fd2) (b2 : Binds K fd2 ["self", "web"] [])
    (Z : CertT K CT) (md : mg "dict" = none) : FnOk P w K mg base CX0 2 f fd ["self", "web", "table"] (spTInit CT) := by
  refine F.ok (ar := _) scTInit T rfl rfl rfl rfl rfl rfl (ok_cinit F2 Z) b2 (by decide +kernel) (fun vs H Q E h => ?_) (fun env => rfl) (fun env => rfl) (fun env => ⟨_, rfl⟩) (fun env e => ?_) (fun env => rfl) (fun A outer s H vs Q E hr h => ?_)
  · obtain ⟨x, dx, t, v, kvs, rfl, _⟩ := h
    rfl
  · unfold interactive
    rw [e] <;> rfl
  · obtain ⟨x, dx, t, v, kvs, rfl, hx, ht, hand⟩ := h
    refine ⟨_, _, pa_cons (pv 1) pa_nil, pss_one (ps_fld (pv 0) (pe_callTy call_dictD (by rfl) md boot_dict (pa_cons (pv 2) pa_nil)) rfl), x, dx, [], rfl, hx, ?_⟩
    refine ⟨_, rfl, x, dx, v, rfl, hx, ?_⟩
    have ntx : t ≠ x := ne_of ht hx (by intro z; cases z)
    refine ⟨_, rfl, t, kvs, rfl, .inl (by rw [upd_ne ntx]; exact ht), fun d nd => ?_⟩
    have ndx : d ≠ x := fun z => by rw [z, upd_same] at nd; cases nd
    rw [upd_ne ndx] at nd
    refine ⟨_, rfl, x, CT, dx, _, rfl, by rw [upd_ne ndx.symm]; exact upd_same, Z.cl, Z.nR, (by show 1 < 1000; decide), ?_⟩
    refine hand _ d (fun b o nb hb => ?_) nd (by rw [upd_ne ndx]; exact upd_same) upd_same
    have nbd : b ≠ d := ne_of_none hb nd
    rw [upd_ne nb, upd_ne nbd, upd_ne nb]
    exact hb
theorem ok_tcall {f fV CT CI : Addr} {fd fdV : FuncData} (F : Fun K "__call__" "TableCertificate.__call__" sTCall f fd) (GV : FnOk P w K mg base (L2.CX P w) 5 fV fdV ["table", "word"] (spValue CI)) (FV : Fun K "value_of" "value_of" sValueOf fV fdV) (bV : Binds K fdV ["table", "word"] []) (gV : mg "value_of" = some (.ref fV))
    (Z : CertT K CT) : FnOk P w K mg base (L2.CX P w) 6 f fd ["self", "word"] (spTCall CT CI) := by
  refine F.okX scTCall (fun vs H Q E h => ?_) (fun cdv A outer s H vs Q E hr h => ?_)
  · obtain ⟨x, dx, d, v, z, rfl, _⟩ := h
    rfl
  · obtain ⟨x, dx, d, v, z, rfl, hx, hand⟩ := h
    refine ⟨_, pss_one (ps_ret (pe_call GV hr (by rfl) gV FV.kp bV .nil (passes_call (takes_of rfl rfl rfl rfl) (fun _ _ _ _ h => h)) (pa_cons (pe_fld (pv 0) rfl) (pa_cons (pv 1) pa_nil)))), ?_⟩
    exact ⟨_, rfl, x, CT, dx, _, _, rfl, hx, Z.cl, Z.nR, certF_rows v d, _, rfl, hand⟩
theorem ok_trows {f CT : Addr} {fd : FuncData} (F : Fun K "table" "TableCertificate.table" sTRows f fd) (Z : CertT K CT) (md : mg "dict" = none) : FnOk P w K mg base CX0 1 f fd ["self"] (spTRows CT) := by
  refine F.ok scTRows (fun vs H Q E h => ?_) (fun cdv A outer s H vs Q E hr h => ?_)
  · obtain ⟨x, dx, d, v, kvs, rfl, _⟩ := h
    rfl
  · obtain ⟨x, dx, d, v, kvs, rfl, hx, hd, hand⟩ := h
    refine ⟨_, pss_one (ps_ret (pe_callTy call_dictD (by rfl) md boot_dict (pa_cons (pe_fld (pv 0) rfl) pa_nil))), ?_⟩
    exact ⟨_, rfl, x, CT, dx, _, _, rfl, hx, Z.cl, Z.nR, certF_rows v d, d, kvs, rfl, .inl hd, hand⟩
theorem edge_has {es : List Edg} (nd : (es.map fun e => txt [e.letter]).Nodup) (z : Str) : (valV (endsK es) (Sum.inr z)).isSome = decide (z ∈ es.map fun e => txt [e.letter]) := by
  induction es with
  | nil => rfl
  | cons e es ih =>
    show (valV ((Sum.inr (txt [e.letter]), V.ref e.pair) :: endsK es) (Sum.inr z)).isSome = _
    rw [List.map_cons, List.nodup_cons] at nd
    by_cases h : (Sum.inr (txt [e.letter]) : Key) = Sum.inr z
    · rw [valV_pos h]
      have e2 := Sum.inr.inj h
      simp [e2]
    · rw [valV_neg h, ih nd.2]
      have e2 : ¬ z = txt [e.letter] := fun q => h (by rw [q])
      simp [e2]
theorem ok_whas {f C : Addr} {fd : FuncData} (F : Fun K "__contains__" "Web.__contains__" sWHas f fd) (U : WebT K mg C) : FnOk P w K mg base CX0 1 f fd ["self", "x"] (spWHas C) := by
  refine F.ok scWHas (fun vs H Q E h => ?_) (fun cdv A outer s H vs Q E hr h => ?_)
  · obtain ⟨x, z, ms, es, rfl, _⟩ := h
    rfl
  · obtain ⟨x, z, ms, es, rfl, ⟨dx, a1, a2, a3, hx, h1, h2, h3, ok⟩, hand⟩ := h
    refine ⟨_, pss_one (ps_ret (pe_cmp (pc_din (hu_of hr) (pv 1) (pe_fld (pv 0) rfl)) (by rfl))), ?_⟩
    refine ⟨_, rfl, _, rfl, x, C, dx, _, _, rfl, hx, U.cl, U.nP, webF_pairs a1 a2 a3, a2, _, rfl, DGet.k (k := Sum.inr z) h2, ?_⟩
    have once : (es.map fun e => txt [e.letter]).Nodup := by
      refine List.pairwise_map.mpr ((List.pairwise_map.mp ok.risE).imp fun {p q} less same => ?_)
      have eq : p.letter = q.letter := List.head_eq_of_cons_eq (txt_inj same)
      omega
    rw [edge_has once z]
    exact hand
end


end T78

/-! what the statement on values of words builds and asks -/
namespace Tm
open PySem PySem.Spec PyProof.Rows L2
structure TblL (H : Hp) (d : Addr) (n : Nat) (rows : List (Nat × List Nat)) : Prop where
  tbl : Tbl H d n rows
  once : (rows.map (·.1)).Nodup
  abc : ∀ r ∈ rows, r.1 ∈ alpha
theorem TblL.same {H H' : Hp} {d : Addr} {n : Nat} {rows : List (Nat × List Nat)} (t : TblL H d n rows) (s : Same H H') : TblL H' d n rows := ⟨t.tbl.same s, t.once, t.abc⟩
theorem TblL.keep {H H' : Hp} {b d : Addr} {n : Nat} {rows : List (Nat × List Nat)} (t : TblL H d n rows) (nb : d ≠ b) (k : Kp b H H') : TblL H' d n rows := ⟨⟨k _ _ nb t.tbl.at_, t.tbl.few, t.tbl.all, t.tbl.small⟩, t.once, t.abc⟩
/-- a word of letters of the table -/
def WordOf (rows : List (Nat × List Nat)) (most : Nat) (word : List Nat) : Prop := ∃ s cs, word = wd s cs ∧ cs.length ≤ most ∧ ∀ c ∈ cs, c ∈ rows.map (·.1)
def spText : Sp := fun vs H Q _ => ∃ (b l r m d : Addr) (n most : Nat) (rows : List (Nat × List Nat)), vs = [.ref b, .ref r, .int (most : Nat)] ∧ Bag H b l ∧ H r = some (.tup [.ref m, .ref d]) ∧ TblL H d n rows ∧ most ≤ 100 ∧
  ∀ H' word, Kp b H H' → Bag H' b l → WordOf rows most word → Q (tv word) H'
def spLSize : Sp := fun vs H Q _ => ∃ (d : Addr) (n : Nat) (rows : List (Nat × List Nat)), vs = [.ref d] ∧ TblL H d n rows ∧ ∀ H', Same H H' → Q (.int ((sizeN n rows : Nat) : Int)) H'
def spLValue : Sp := fun vs H Q _ => ∃ (d : Addr) (n : Nat) (rows : List (Nat × List Nat)) (word : List Nat), vs = [.ref d, tv word] ∧ TblL H d n rows ∧ word.length ≤ 20 ∧ (lettersL word).length ≤ 19 ∧ goodW rows (lettersL word) ∧ ∀ H', Same H H' → Q (tv (valL n rows word)) H'
def spKeys : Sp := fun vs H Q _ => ∃ (b l d : Addr) (n : Nat) (rows : List (Nat × List Nat)), vs = [.ref b, .ref d] ∧ Bag H b l ∧ TblL H d n rows ∧ ∀ H' p rows', Kp b H H' → Bag H' b l → H p = none → TblL H' p n rows' → rows'.Perm rows → Q (.ref p) H'
theorem keys_rows (rows : List (Nat × List Nat)) : (rowsK rows).map (·.1) = (rows.map fun r => txt [r.1]).map Sum.inr := by
  unfold rowsK
  rw [List.map_map, List.map_map]
  rfl
theorem strOk_sig {c : Nat} (h : c ∈ alpha) : PyData.strOk (txt [c]) = true := by
  have all : ∀ c ∈ alpha, PyData.strOk (txt [c]) = true := by decide +kernel
  exact all c h
theorem Sn.self {n : Nat} {x : List Nat} (h : Sn n x) : signedL ((signL x : Nat) : Int) (lettersL x) = x := by
  obtain ⟨s, cs, rfl, l, a⟩ := h
  rw [letters_wd a.lt, sign_wd a.lt]
  exact signed_wd0 cs
theorem lay_texts : ∀ zs : List Str, (∀ z ∈ zs, PyData.strOk z = true) → PyData.canLayAll0 (zs.map PyData.str) = true
  | [], _ => by simp [PyData.canLayAll0]
  | z :: r, h => by
    have rest := lay_texts r fun x hx => h x (List.mem_cons_of_mem _ hx)
    simp [PyData.canLayAll0, PyData.canLay0, rest, h z List.mem_cons_self]
theorem shaped_texts {zs : List Str} (h : ∀ z ∈ zs, PyData.strOk z = true) : SeqAt.shaped (.list (zs.map PyData.str)) = true := by
  have d := depth_texts zs
  unfold SeqAt.shaped
  rw [PyData.canLay0, lay_texts zs h, PyData.depth, Bool.true_and]
  exact decide_eq_true (by omega)
end Tm

namespace T78
open PySem PySem.Spec PyProof.Rows L2 Tm
abbrev sLSize : Stmt := topS 61
theorem scLSize : FnScope ["_law_strings_in", "_law_letter"] ["_law_strings_in"] (defScope sLSize) := ⟨rfl, rfl, rfl, by decide +kernel, rfl, by decide +kernel, by decide +kernel⟩
abbrev sLValue : Stmt := topS 62
theorem scLValue : FnScope ["_law_strings_in", "_law_text_here", "_law_size_here", "_law_found", "_law_sign"] ["_law_strings_in", "_law_text_here"] (defScope sLValue) := ⟨rfl, rfl, rfl, by decide +kernel, rfl, by decide +kernel, by decide +kernel⟩
theorem two_minus {n : Nat} {x : List Nat} (hx : Sn n x) : two x (45 :: List.replicate n 49) = signedL (((1 : Nat) : Int) + ((signL x : Nat) : Int)) (lettersL x) := by
  have one := two_one hx
  have body : lettersL (45 :: List.replicate n 49) = List.replicate n 49 := rfl
  have ones : lettersL (List.replicate n 49) = List.replicate n 49 := letters_wd (s := false) (al_ones n).lt
  have s0 : signL (List.replicate n 49) = 0 := sign_wd (s := false) (al_ones n).lt
  have s1 : signL (45 :: List.replicate n 49) = 1 := rfl
  obtain ⟨s, cs, rfl, len, al⟩ := hx
  unfold two at one ⊢
  rw [body, s1]
  rw [ones, s0] at one
  rw [letters_wd al.lt, sign_wd al.lt] at *
  rw [signed_wd] at one ⊢
  rw [signed_wd]
  have lz : zL cs (List.replicate n 49) = cs := by
    have e := congrArg lettersL one
    rw [letters_wd al.lt, letters_wd] at e
    · exact e
    · exact (zL_al al (al_ones n)).lt
  have ez : decide ((((s.toNat + 0 + zS cs (List.replicate n 49) : Nat) : Int)) % 2 = 1) = s := by
    have e := congrArg signL one
    rw [sign_wd al.lt, sign_wd (zL_al al (al_ones n)).lt] at e
    revert e
    cases s <;> cases decide ((((_ : Nat) : Int)) % 2 = 1) <;> decide
  rw [lz]
  congr 1
  have ez' := ez
  cases s
  · have h0 := of_decide_eq_false ez'
    apply decide_eq_decide.mpr
    show (((false.toNat + 1 + zS cs (List.replicate n 49) : Nat) : Int)) % 2 = 1 ↔ (((1 : Nat) : Int) + ((false.toNat : Nat) : Int)) % 2 = 1
    simp only [Bool.toNat_false] at h0 ⊢
    omega
  · have h0 := of_decide_eq_true ez'
    apply decide_eq_decide.mpr
    simp only [Bool.toNat_true] at h0 ⊢
    omega
section
variable {P : Program} {w : World} {K : PySem.W.Frag} {mg : Str → Option Value} {base : Heap}
theorem ok_lsize {f fY : Addr} {fd fdY : FuncData} (F : Fun K "_law_size" "_law_size" sLSize f fd) (FY : Fun K "_law_body" "_law_body" sLBody fY fdY) (bY : Binds K fdY ["_law_text_here"] []) (gY : mg "_law_body" = some (.ref fY)) (ms : mg "sorted" = none) (ml : mg "len" = none) :
    FnOk P w K mg base CX0 2 f fd ["_law_strings_in"] spLSize := by
  have GY : FnOk P w K mg base CX0 1 fY fdY ["_law_text_here"] spLBody := ok_lbody FY
  refine F.ok scLSize (fun vs H Q E h => ?_) (fun cdv A outer s H vs Q E hr h => ?_)
  · obtain ⟨d, n, rows, rfl, _⟩ := h
    rfl
  · obtain ⟨d, n, rows, rfl, t, q⟩ := h
    refine ⟨_, pss_cons (ps_for PassesOwn.never rfl (pi_list (pe_callB (call_sortedD rfl) (by rfl) ms (by decide +kernel) (pa_cons (pv 0) pa_nil))) (pg_name (i := 1) scLSize.nd rfl (.inl rfl))
        (pss_one (ps_ret (pe_callB call_len_str (by rfl) ml PySem.boot_len (pa_cons (pe_call GY hr (by rfl) gY FY.kp bY .nil pass0 (pa_cons (pe_dget (hu_of hr) (pv 0) (pv 1) (fun _ _ => rfl)) pa_nil)) pa_nil)))))
      (pss_one (ps_ret pe_int)), ?_⟩
    refine ⟨_, rfl, d, _, rows.map (fun r => txt [r.1]), rfl, .inl t.tbl.at_, keys_rows rows, by rw [List.length_map]; have := t.tbl.few; omega, fun ys p py _ np => ?_⟩
    refine ⟨p, rfl, ⟨_, SqL.of upd_same⟩, for_list (K := K) (a := p) (xs := ys.map V.str) (fun i σ H' => i = 0 ∧ σ = [some (.ref d), none] ∧ H' = upd H p (.lst (ys.map V.str))) ⟨rfl, rfl, rfl⟩ (fun i σ H' _ ⟨_, _, e⟩ => by rw [e]; exact SqL.of upd_same) ?_ ?_⟩
    · rintro i v σ H' hv ⟨rfl, rfl, rfl⟩
      obtain ⟨y, hy, rfl⟩ := List.mem_map.mp (List.mem_of_getElem? hv)
      obtain ⟨r, hr', rfl⟩ := List.mem_map.mp (py.mem_iff.mp hy)
      obtain ⟨x, hx⟩ := mem_lookup (List.mem_map.mpr ⟨r, hr', rfl⟩ : r.1 ∈ rows.map (·.1))
      have sn : Sn n x := t.tbl.all _ (lookup_mem hx)
      have look : valV (rowsK rows) (Sum.inr (txt [r.1])) = some (tv x) := by rw [rowsK_at, hx]; rfl
      have got : DGet (upd H p (.lst (ys.map V.str))) d (.str (txt [r.1])) (some (tv x)) := look ▸ DGet.k (k := Sum.inr (txt [r.1])) ((same_upd np) _ _ t.tbl.at_)
      have small := t.tbl.small
      have l1 := sn.len.1
      have l2 := sn.len.2.1
      refine ⟨_, rfl, _, rfl, d, _, rfl, got, x, rfl, by omega, _, rfl, ?_⟩
      have ne : rows.isEmpty = false := by
        cases rows with
        | nil => cases hr'
        | cons _ _ => rfl
      have e : sizeN n rows = n := by unfold sizeN; rw [ne]; rfl
      rw [txt_len, l2]
      rw [e] at q
      exact ⟨Nat.le_of_lt (small1000 (by omega)), q _ (same_upd np)⟩
    · rintro σ H' ⟨e0, rfl, rfl⟩
      rw [List.length_map, py.length_eq, List.length_map] at e0
      have e : rows = [] := List.length_eq_zero_iff.mp e0
      subst e
      exact q _ (same_upd np)
end


end T78

namespace T78
open PySem PySem.Spec PyProof.Rows L2 Tm
section
variable {P : Program} {w : World} {K : PySem.W.Frag} {mg : Str → Option Value} {base : Heap}
set_option maxHeartbeats 1000000 in
theorem ok_lvalue {f fZ fA fM fY : Addr} {fd fdZ fdA fdM fdY : FuncData} (F : Fun K "_law_value" "_law_value" sLValue f fd)
    (GZ : FnOk P w K mg base CX0 2 fZ fdZ ["_law_strings_in"] spLSize) (FZ : Fun K "_law_size" "_law_size" sLSize fZ fdZ) (bZ : Binds K fdZ ["_law_strings_in"] []) (gZ : mg "_law_size" = some (.ref fZ))
    (GA : FnOk P w K mg base CX0 3 fA fdA ["_law_strings_in", "_law_size_here"] (spTAll K)) (FA : Fun K "_law_times_all" "_law_times_all" sLTAll fA fdA) (bA : Binds K fdA ["_law_strings_in", "_law_size_here"] []) (gA : mg "_law_times_all" = some (.ref fA))
    (GM : FnOk P w K mg base CX0 2 fM fdM ["_law_first", "_law_last"] spTwo) (FM : Fun K "_law_times" "_law_times" sLTimes fM fdM) (bM : Binds K fdM ["_law_first", "_law_last"] []) (gM : mg "_law_times" = some (.ref fM))
    (FY : Fun K "_law_body" "_law_body" sLBody fY fdY) (bY : Binds K fdY ["_law_text_here"] []) (gY : mg "_law_body" = some (.ref fY)) :
    FnOk P w K mg base CX0 4 f fd ["_law_strings_in", "_law_text_here"] spLValue := by
  have GY : FnOk P w K mg base CX0 1 fY fdY ["_law_text_here"] spLBody := ok_lbody FY
  refine F.ok scLValue (fun vs H Q E h => ?_) (fun cdv A outer s H vs Q E hr h => ?_)
  · obtain ⟨d, n, rows, word, rfl, _⟩ := h
    rfl
  · obtain ⟨d, n, rows, word, rfl, t, lw, ll, good, q⟩ := h
    have hr1 : Room 1 _ := hr.mono (by decide)
    have hr2 : Room 2 _ := hr.mono (by decide)
    refine ⟨_, pss_cons (ps_set (i := 2) scLValue.nd rfl (.inl rfl) (pe_call GZ hr2 (by rfl) gZ FZ.kp bZ .nil pass0 (pa_cons (pv 0) pa_nil)))
      (pss_cons (ps_set (i := 3) scLValue.nd rfl (.inl rfl) (pe_call GA hr (by rfl) gA FA.kp bA .nil pass0 (pa_cons (pe_lc (own := [("_law_sign", 4)]) (g := gName 4) (tt := tYes) rfl scLValue.nd (pi_str (pe_call GY hr1 (by rfl) gY FY.kp bY .nil pass0 (pa_cons (pv 1) pa_nil))) (blkOk_by (own := [("_law_sign", 4)]) (N := ["_law_strings_in", "_law_text_here", "_law_size_here", "_law_found", "_law_sign"]) (sc := defScope sLValue) (by decide +kernel))
          (fun _ _ _ _ _ => pg_name (i := 4) scLValue.nd rfl (Or.inl rfl)) (fun _ _ _ _ _ => pts_nil) (fun _ _ _ _ _ => pe_dget (hu_of hr) (pv 0) (pv 4) (fun _ _ => rfl))) (pa_cons (pv 2) pa_nil))))
      (pss_one (ps_ret (pe_ifExp (pt_cmpR op_eq (pe_slice sl_str (pv 1) po_none (po_some pe_int)) pe_str (nomark _)) (pe_call GM hr2 (by rfl) gM FM.kp bM .nil pass0 (pa_cons (pv 3) (pa_cons (pe_op op_add_str pe_str (pe_op op_times pe_str (pv 2))) pa_nil))) (pv 3))))), ?_⟩
    have few : sizeN n rows ≤ 900 := by
      have := t.tbl.small
      unfold sizeN
      split
      · omega
      · exact this
    refine ⟨_, rfl, d, n, rows, rfl, t, fun H2 s2 => ?_⟩
    refine ⟨_, rfl, word, rfl, by omega, _, rfl, fun D nD => ?_⟩
    have hsz : (txt (lettersL word)).cps.size = (lettersL word).length := txt_len _
    refine lc_it (walk_str (z := txt (lettersL word))) (fun i J => Same H2 J ∧ J D = some (.lst ((strsOf rows ((lettersL word).take i)).map tv))) ⟨same_upd nD, upd_same⟩ (fun _ _ _ _ => trivial) ?_ ?_
    · rintro i v J J' hi ⟨sJ, hD⟩ ⟨rfl, c, hc, rfl⟩
      rw [hsz] at hi
      have ec := at_txt hc
      obtain ⟨x, hx⟩ := good c (List.mem_of_getElem? ec)
      have look : valV (rowsK rows) (Sum.inr (txt [c])) = some (tv x) := by rw [rowsK_at, hx]; rfl
      have got : DGet J' d (.str (txt [c])) (some (tv x)) := look ▸ DGet.k (k := Sum.inr (txt [c])) (sJ _ _ (s2 _ _ t.tbl.at_))
      refine ⟨rfl, ?_⟩
      refine ⟨_, rfl, _, rfl, d, _, rfl, got, _, hD, ?_, same_put sJ nD, ?_⟩
      · have := strs_len rows ((lettersL word).take i)
        rw [List.length_take] at this
        rw [List.length_map]
        exact small1000 (by omega)
      · rw [upd_same, List.take_succ, ec]
        unfold strsOf
        rw [List.filterMap_append, List.map_append]
        simp [hx]
    · rintro J ⟨sJ, hD⟩
      rw [hsz, List.take_length] at hD
      have sn := strs_sn t.tbl.all (lettersL word)
      have len := strs_len rows (lettersL word)
      refine ⟨_, rfl, sizeN n rows, D, strsOf rows (lettersL word), rfl, SqL.of hD, few, by omega, sn, fun H5 s5 => ?_⟩
      have ep : (strsOf rows (lettersL word)).foldl two (List.replicate (sizeN n rows) 49) = prodL n rows word := rfl
      have sp : Sn (sizeN n rows) (prodL n rows word) := Sn.fold (Sn.one _) sn
      have sA := (s2.trans sJ).trans s5
      have tz : (txt word).length ≤ sizeLine := by rw [txt_len]; exact Nat.le_of_lt (small1000 (by omega))
      refine ⟨_, rfl, 1, rfl, _, rfl, tz, rfl, _, rfl, ?_⟩
      rw [first_is]
      by_cases h : signL word = 1
      · rw [h]
        refine iteT ⟨_, rfl, _, rfl, 49, sizeN n rows, (by decide +kernel), rfl, by omega, _, _, rfl, rfl, ?_, ?_⟩
        · rw [txt_len, List.length_replicate]
          exact Nat.le_of_lt (small1000 (by show 1 + _ ≤ 1000; omega))
        refine ⟨sizeN n rows, prodL n rows word, 45 :: List.replicate (sizeN n rows) 49, ?_, few, sp, ⟨true, _, rfl, List.length_replicate, al_ones _⟩, fun H6 s6 => ?_⟩
        · have m : Str.ofString "-" = txt [45] := by decide +kernel
          rw [ep, m, txt_app]
          rfl
        · rw [two_minus sp]
          have e : valL n rows word = signedL (((1 : Nat) : Int) + ((signL (prodL n rows word) : Nat) : Int)) (lettersL (prodL n rows word)) := by unfold valL; rw [h]
          rw [← e]
          exact q _ (sA.trans s6)
      · have h0 : signL word = 0 := by
          cases word with
          | nil => rfl
          | cons c r =>
            by_cases hc : c = 45
            · exact absurd (if_pos hc) h
            · exact if_neg hc
        rw [h0]
        refine iteF ⟨_, rfl, ?_⟩
        rw [ep]
        have e : valL n rows word = prodL n rows word := by
          unfold valL
          rw [h0]
          have := sp.self
          simpa using this
        rw [← e]
        exact q _ sA
end


end T78

/-! What the statement on webs and tables that are asked by signs builds and asks. -/
namespace Tm
open PySem PySem.Spec PyProof.Rows L2
/-- a word of such letters -/
def WordC (cs : List Nat) (most : Nat) (word : List Nat) : Prop := ∃ s ws, word = wd s ws ∧ ws.length ≤ most ∧ ∀ c ∈ ws, c ∈ cs
def spTextE : Sp := fun vs H Q _ => ∃ (b l r m d : Addr) (most : Nat) (kvs : List (Key × V)) (cs : List Nat), vs = [.ref b, .ref r, .int (most : Nat)] ∧ Bag H b l ∧ H r = some (.tup [.ref m, .ref d]) ∧ H d = some (.dK kvs) ∧ kvs.map (·.1) = (cs.map fun c => txt [c]).map Sum.inr ∧ cs.length ≤ 30 ∧
  (∀ c ∈ cs, c ∈ alpha) ∧ most ≤ 100 ∧ ∀ H' word, Kp b H H' → Bag H' b l → WordC cs most word → Q (tv word) H'
theorem keys_ends (es : List Edg) : (endsK es).map (·.1) = ((es.map (·.letter)).map fun c => txt [c]).map Sum.inr := by
  unfold endsK
  rw [List.map_map, List.map_map, List.map_map]
  rfl
/-- what stands in the heap while a turn of the statement runs -/
structure Here (C CTC rw dm de w px pdx d dc : Addr) (es es' : List Edg) (ms' : List (Int × Int)) (n : Nat) (rows : List (Nat × List Nat)) (H : Hp) : Prop where
  raw : H rw = some (.tup [.ref dm, .ref de])
  ends : H de = some (.dK (endsK es))
  web : WebAt C H w ms' es'
  paper : H px = some (.ins CTC pdx (certF (.ref w) dc))
  tab : TblL H d n rows
  tab2 : TblL H dc n rows
theorem webAt_keep {C : Addr} {H H' : Hp} {b x : Addr} {u : List V} {ms : List (Int × Int)} {es : List Edg} (r : WebAt C H x ms es) (hb : H b = some (.lst u)) (k : Kp b H H') : WebAt C H' x ms es := by
  obtain ⟨dx, a1, a2, a3, h1, h2, h3, h4, h5⟩ := r
  have go : ∀ {a : Addr} {o : HO}, H a = some o → (∀ u, o ≠ .lst u) → H' a = some o := fun ha hn => k _ _ (ne_of ha hb (hn u)) ha
  exact ⟨dx, a1, a2, a3, go h1 (fun _ z => by cases z), go h2 (fun _ z => by cases z), go h3 (fun _ z => by cases z), go h4 (fun _ z => by cases z), ⟨h5.rise, h5.node, h5.mark, h5.risE, h5.name, fun e he => go (h5.pair e he) (fun _ z => by cases z), h5.less, h5.ends⟩⟩
theorem tblL_keep {H H' : Hp} {b d : Addr} {u : List V} {n : Nat} {rows : List (Nat × List Nat)} (t : TblL H d n rows) (hb : H b = some (.lst u)) (k : Kp b H H') : TblL H' d n rows := t.keep (ne_of t.tbl.at_ hb (fun z => by cases z)) k
theorem Here.keep {C CTC rw dm de w px pdx d dc : Addr} {es es' : List Edg} {ms' : List (Int × Int)} {n : Nat} {rows : List (Nat × List Nat)} {H H' : Hp} {b l : Addr} (h : Here C CTC rw dm de w px pdx d dc es es' ms' n rows H) (B : Bag H b l) (k : Kp b H H') : Here C CTC rw dm de w px pdx d dc es es' ms' n rows H' := by
  obtain ⟨u, hb⟩ := B.hbl
  have go : ∀ {a : Addr} {o : HO}, H a = some o → (∀ u, o ≠ .lst u) → H' a = some o := fun ha hn => k _ _ (ne_of ha hb (hn u)) ha
  exact ⟨go h.raw (fun _ z => by cases z), go h.ends (fun _ z => by cases z), webAt_keep h.web hb k, go h.paper (fun _ z => by cases z), tblL_keep h.tab hb k, tblL_keep h.tab2 hb k⟩
theorem Here.same {C CTC rw dm de w px pdx d dc : Addr} {es es' : List Edg} {ms' : List (Int × Int)} {n : Nat} {rows : List (Nat × List Nat)} {H H' : Hp} (h : Here C CTC rw dm de w px pdx d dc es es' ms' n rows H) (s : Same H H') : Here C CTC rw dm de w px pdx d dc es es' ms' n rows H' :=
  ⟨s _ _ h.raw, s _ _ h.ends, h.web.same s, s _ _ h.paper, h.tab.same s, h.tab2.same s⟩
/-- a text that is a letter of one of the edges: the same in any order -/
theorem has_perm {es es' : List Edg} (p : (es'.map (·.letter)).Perm (es.map (·.letter))) (z : Str) : decide (z ∈ es'.map fun e => txt [e.letter]) = inV (.str z) ((endsK es).map fun kv => kV kv.1) := by
  have e1 : (es'.map fun e => txt [e.letter]) = (es'.map (·.letter)).map fun c => txt [c] := by rw [List.map_map]; rfl
  have e2 : ((endsK es).map fun kv => kV kv.1) = ((es.map (·.letter)).map fun c => txt [c]).map V.str := by
    unfold endsK
    rw [List.map_map, List.map_map, List.map_map]
    rfl
  rw [e1, e2]
  have e3 : ∀ zs : List Str, inV (.str z) (zs.map V.str) = decide (z ∈ zs) := by
    intro zs
    induction zs with
    | nil => rfl
    | cons y r ih =>
      show (eqV (.str y) (.str z) || inV (.str z) (r.map V.str)) = _
      rw [ih]
      show ((y == z) || decide (z ∈ r)) = _
      by_cases h : z = y
      · subst h
        simp
      · have h2 : ¬ y = z := fun q => h q.symm
        simp [h, h2]
  rw [e3]
  exact decide_eq_decide.mpr ((p.map _).mem_iff)
end Tm

namespace T78
open PySem PySem.Spec PyProof.Rows L2 Tm
abbrev sLText : Stmt := topS 56
theorem scLText : FnScope ["_law_bag_here", "_law_raw_here", "_law_most", "_law_letters_here", "_law_size_here", "_law_k"] ["_law_bag_here", "_law_raw_here", "_law_most"] (defScope sLText) := ⟨rfl, rfl, rfl, by decide +kernel, rfl, by decide +kernel, by decide +kernel⟩
section
variable {P : Program} {w : World} {K : PySem.W.Frag} {mg : Str → Option Value} {base : Heap}
set_option maxHeartbeats 1000000 in
theorem ok_ltext {f fP fO fS : Addr} {fd fdP fdO fdS : FuncData} (F : Fun K "_law_text" "_law_text" sLText f fd) (FP : Fun K "_law_pull" "_law_pull" sPull fP fdP) (bP : Binds K fdP ["_law_bag_here", "_law_many"] []) (gP : mg "_law_pull" = some (.ref fP))
    (FO : Fun K "_law_of" "_law_of" sOf fO fdO) (bO : Binds K fdO ["_law_bag_here", "_law_things"] []) (gO : mg "_law_of" = some (.ref fO)) (FS : Fun K "_law_signed" "_law_signed" sLSigned fS fdS) (bS : Binds K fdS ["_law_mturned", "_law_body_here"] []) (gS : mg "_law_signed" = some (.ref fS))
    (ml : mg "len" = none) (mr : mg "range" = none) (ms : mg "sorted" = none) : FnOk P w K mg base CX0 3 f fd ["_law_bag_here", "_law_raw_here", "_law_most"] spTextE := by
  have GP : FnOk P w K mg base CX0 1 fP fdP ["_law_bag_here", "_law_many"] spPull := ok_pull FP ml
  have GO : FnOk P w K mg base CX0 2 fO fdO ["_law_bag_here", "_law_things"] (spOf K) := ok_of FO FP bP gP ml
  have GS : FnOk P w K mg base CX0 1 fS fdS ["_law_mturned", "_law_body_here"] spLSigned := ok_lsigned FS
  refine F.ok scLText (fun vs H Q E h => ?_) (fun cdv A outer s H vs Q E hr h => ?_)
  · obtain ⟨b, l, r, m, d, most, kvs, cs0, rfl, _⟩ := h
    rfl
  · obtain ⟨b, l, r, m, d, most, kvs, cs0, rfl, B0, hr0, hd0, ek, fc, abc, hmost, q⟩ := h
    have hr1 : Room 1 _ := hr.mono (by decide)
    refine ⟨_, pss_cons (ps_set (i := 3) scLText.nd rfl (.inr rfl) (pe_callB (call_sortedD rfl) (by rfl) ms (by decide +kernel) (pa_cons (pe_ix ix_tup (pv 1) pe_int (fun _ _ => rfl)) pa_nil)))
      (pss_cons (ps_set (i := 4) scLText.nd rfl (.inl rfl) (pe_ifExp (pt_cmpR (op_neD hr.units) (pv 3) (pe_lst pa_nil) (nomark _)) (pe_call GP hr1 (by rfl) gP FP.kp bP .nil pass0 (pa_cons (pv 0) (pa_cons (pe_op op_add (pv 2) pe_int) pa_nil))) pe_int))
      (pss_one (ps_ret (pe_call GS hr1 (by rfl) gS FS.kp bS .nil pass0 (pa_cons (pe_call GP hr1 (by rfl) gP FP.kp bP .nil pass0 (pa_cons (pv 0) (pa_cons pe_int pa_nil))) (pa_cons (pe_join pe_str (pe_lc (own := [("_law_k", 5)]) (g := gName 5) (tt := tYes) rfl scLText.nd (pi_range1 (by rfl) mr (pa_cons (pv 4) pa_nil)) (blkOk_by (own := [("_law_k", 5)]) (N := ["_law_bag_here", "_law_raw_here", "_law_most", "_law_letters_here", "_law_size_here", "_law_k"]) (sc := defScope sLText) (by decide +kernel))
        (fun _ _ _ _ _ => pg_name (i := 5) scLText.nd rfl (Or.inl rfl)) (fun _ _ _ _ _ => pts_nil) (fun _ _ _ _ _ => (pe_call GO hr (by rfl) gO FO.kp bO .nil pass0 (pa_cons (pv 0) (pa_cons (pv 3) pa_nil)))))) pa_nil)))))), ?_⟩
    refine ⟨_, rfl, r, _, 1, .ref d, rfl, rfl, .inl (.inl hr0), rfl, d, _, cs0.map (fun c => txt [c]), rfl, .inl hd0, ek, by rw [List.length_map]; omega, fun ys p py _ np => ?_⟩
    have B1 : Bag (upd H p (.lst (ys.map V.str))) b l := B0.new np
    have npb : p ≠ b := B0.nb np
    have hp : (upd H p (.lst (ys.map V.str))) p = some (.lst (ys.map V.str)) := upd_same
    have k1 : Kp b H (upd H p (.lst (ys.map V.str))) := Kp.new np
    generalize upd H p (.lst (ys.map V.str)) = H1 at B1 hp k1 ⊢
    have keys : ∀ y ∈ ys, ∃ c, y = txt [c] ∧ c ∈ cs0 ∧ c ∈ alpha := by
      intro y hy
      obtain ⟨c, hc, rfl⟩ := List.mem_map.mp (py.mem_iff.mp hy)
      exact ⟨c, rfl, hc, abc c hc⟩
    have many : ys.length ≤ 30 := by rw [py.length_eq, List.length_map]; exact fc
    have okS : ∀ z ∈ ys, PyData.strOk z = true := by
      intro z hz
      obtain ⟨c, rfl, _, hc⟩ := keys z hz
      exact strOk_sig hc
    refine ⟨_, rfl, Nat.zero_le _, fun e0 ne0 => ⟨_, _, .lst (SqL.of ((same_upd ne0) _ _ hp)) (dp_texts ys), .lst (SqL.of upd_same) .nil, shaped_texts okS, by decide, _, rfl, ?_⟩⟩
    have B2 : Bag (upd H1 e0 (.lst [])) b l := B1.new ne0
    have hp2 : (upd H1 e0 (.lst [])) p = some (.lst (ys.map V.str)) := (same_upd ne0) _ _ hp
    have k2 := k1.trans (Kp.new (b := b) (o := .lst []) ne0)
    generalize upd H1 e0 (.lst []) = H2 at B2 hp2 k2 ⊢
    have eqvE : ys ≠ [] → PyData.eqv (.list (ys.map PyData.str)) (.list []) = false := by
      intro ne
      cases ys with
      | nil => exact absurd rfl ne
      | cons y r => rfl
    by_cases hys : ys = []
    · subst hys
      refine iteF ?_
      have B3 := B2
      have k3 := k2
      have hp3 := hp2
      have full : ∀ j : Nat, j < (0 : Int).toNat → 0 < (([] : List Str).map V.str).length := fun j h => absurd h (Nat.not_lt_zero j)
      refine ⟨_, rfl, b, l, 2, rfl, B3, by decide, by decide, fun J dj kj BJ dj0 dj1 => ?_⟩
      refine ⟨⟨_, rfl⟩, _, rfl, _, rfl, by omega, by omega, fun D nD => ?_⟩
      have nDb : D ≠ b := BJ.nb nD
      have hpJ := kj _ _ npb hp3
      refine lc_range (lo := 0) (n := (0 : Int).toNat) (fun i H' => Kp b J H' ∧ Bag H' b l ∧ ∃ cs : List Nat, H' D = some (.lst (cs.map sig)) ∧ cs.length = i ∧ ∀ c ∈ cs, c ∈ cs0)
        ⟨Kp.new nD, BJ.new nD, [], upd_same, rfl, fun c hc => absurd hc List.not_mem_nil⟩ ?_ ?_
      · rintro j H' hj ⟨kp, B', cs, hD, hlen, hmem⟩
        refine ⟨rfl, ?_⟩
        refine ⟨_, rfl, _, rfl, b, l, _, ([] : List Str).map V.str, rfl, B', .inl ⟨p, rfl, npb, SqL.of (kp _ _ npb hpJ)⟩, full j hj, by rw [List.length_map]; omega, fun H4 x kp4 B4 hx => ?_⟩
        obtain ⟨y, hy, rfl⟩ := List.mem_map.mp hx
        obtain ⟨c, rfl, hc, _⟩ := keys y hy
        refine ⟨_, kp4 _ _ nDb hD, by rw [List.length_map, hlen]; exact small1000 (by omega), (kp.trans kp4).put nD, B4.put nDb (BJ.nl nD), cs ++ [c], ?_, by rw [List.length_append, hlen]; rfl, ?_⟩
        · rw [upd_same, List.map_append]
          rfl
        · intro c2 h2
          rcases List.mem_append.mp h2 with h2 | h2
          · exact hmem _ h2
          · rw [List.mem_singleton.mp h2]; exact hc
      rintro H7 ⟨k7, B7, cs, hD7, hcl, hcm⟩
      have hu : H7 D = some (.lst ((cs.map fun c => txt [c]).map V.str)) := by
        rw [hD7, List.map_map]
        rfl
      have cap : cs.length ≤ most := by rw [hcl]; exact Nat.zero_le _
      refine ⟨Str.ofString "", D, cs.map (fun c => txt [c]), rfl, rfl, .inl (SqL.of hu), ?_, ?_⟩
      · rw [len_ones, txt_empty, txt_len]; simp; omega
      rw [join_sigs]
      refine ⟨_, cs, rfl, small1000 (by omega), ?_⟩
      rw [signed_wd]
      exact q H7 _ (k3.trans (kj.trans k7)) B7 ⟨_, cs, rfl, cap, hcm⟩
    · rw [eqvE hys]
      refine iteT ⟨_, rfl, _, rfl, _, _, rfl, rfl, b, l, _, rfl, B2, by omega, by omega, fun H3 d3 k23 B3 d0 d1 => ?_⟩
      have hp3 := k23 _ _ npb hp2
      have k3 := k2.trans k23
      have full : ∀ j : Nat, j < d3.toNat → 0 < (ys.map V.str).length := fun j _ => by rw [List.length_map]; exact List.length_pos_iff.mpr hys
      refine ⟨_, rfl, b, l, 2, rfl, B3, by decide, by decide, fun J dj kj BJ dj0 dj1 => ?_⟩
      refine ⟨⟨_, rfl⟩, _, rfl, _, rfl, by omega, by omega, fun D nD => ?_⟩
      have nDb : D ≠ b := BJ.nb nD
      have hpJ := kj _ _ npb hp3
      refine lc_range (lo := 0) (n := d3.toNat) (fun i H' => Kp b J H' ∧ Bag H' b l ∧ ∃ cs : List Nat, H' D = some (.lst (cs.map sig)) ∧ cs.length = i ∧ ∀ c ∈ cs, c ∈ cs0)
        ⟨Kp.new nD, BJ.new nD, [], upd_same, rfl, fun c hc => absurd hc List.not_mem_nil⟩ ?_ ?_
      · rintro j H' hj ⟨kp, B', cs, hD, hlen, hmem⟩
        refine ⟨rfl, ?_⟩
        refine ⟨_, rfl, _, rfl, b, l, _, ys.map V.str, rfl, B', .inl ⟨p, rfl, npb, SqL.of (kp _ _ npb hpJ)⟩, full j hj, by rw [List.length_map]; omega, fun H4 x kp4 B4 hx => ?_⟩
        obtain ⟨y, hy, rfl⟩ := List.mem_map.mp hx
        obtain ⟨c, rfl, hc, _⟩ := keys y hy
        refine ⟨_, kp4 _ _ nDb hD, by rw [List.length_map, hlen]; exact small1000 (by omega), (kp.trans kp4).put nD, B4.put nDb (BJ.nl nD), cs ++ [c], ?_, by rw [List.length_append, hlen]; rfl, ?_⟩
        · rw [upd_same, List.map_append]
          rfl
        · intro c2 h2
          rcases List.mem_append.mp h2 with h2 | h2
          · exact hmem _ h2
          · rw [List.mem_singleton.mp h2]; exact hc
      rintro H7 ⟨k7, B7, cs, hD7, hcl, hcm⟩
      have hu : H7 D = some (.lst ((cs.map fun c => txt [c]).map V.str)) := by
        rw [hD7, List.map_map]
        rfl
      have cap : cs.length ≤ most := by rw [hcl]; omega
      refine ⟨Str.ofString "", D, cs.map (fun c => txt [c]), rfl, rfl, .inl (SqL.of hu), ?_, ?_⟩
      · rw [len_ones, txt_empty, txt_len]; simp; omega
      rw [join_sigs]
      refine ⟨_, cs, rfl, small1000 (by omega), ?_⟩
      rw [signed_wd]
      exact q H7 _ (k3.trans (kj.trans k7)) B7 ⟨_, cs, rfl, cap, hcm⟩
end


end T78

/-! lists of pairs of a letter and a string, made into tables -/
namespace Tm
open PySem PySem.Spec PyProof.Rows L2
def RowsAt (J : Hp) (D : Addr) (rz : List (Addr × Nat × List Nat)) : Prop := J D = some (.lst (rz.map fun a => V.ref a.1)) ∧ ∀ a ∈ rz, J a.1 = some (.tup [tv [a.2.1], tv a.2.2])
theorem rowsAt_nil {J : Hp} {D : Addr} : RowsAt (upd J D (.lst [])) D [] := ⟨upd_same, fun a ha => by cases ha⟩
theorem rowsAt_add {L : Hp} {D T : Addr} {rz : List (Addr × Nat × List Nat)} {c : Nat} {x : List Nat} (h : RowsAt L D rz) (nT : L T = none) :
    RowsAt (upd (upd L T (.tup [tv [c], tv x])) D (.lst ((rz.map fun a => V.ref a.1) ++ [.ref T]))) D (rz ++ [(T, c, x)]) := by
  have hD : (upd L T (.tup [tv [c], tv x])) D = some (.lst (rz.map fun a => V.ref a.1)) := by rw [upd_ne (ne_of_none h.1 nT)]; exact h.1
  have e : (rz.map fun a => V.ref a.1) ++ [.ref T] = (rz ++ [(T, c, x)]).map fun a => V.ref a.1 := by rw [List.map_append]; rfl
  rw [e]
  refine ⟨upd_same, fun q hq => ?_⟩
  have at_ : (upd L T (.tup [tv [c], tv x])) q.1 = some (.tup [tv [q.2.1], tv q.2.2]) := by
    rcases List.mem_append.mp hq with hq | hq
    · rw [upd_ne (ne_of_none (h.2 q hq) nT)]
      exact h.2 q hq
    · rw [List.mem_singleton.mp hq]
      exact upd_same
  rw [upd_ne (ne_of at_ hD (by intro e; cases e))]
  exact at_
theorem rowsAt_keep {H H' : Hp} {b D : Addr} {rz : List (Addr × Nat × List Nat)} (h : RowsAt H D rz) (nb : D ≠ b) (hb : ∃ u, H b = some (.lst u)) (k : Kp b H H') : RowsAt H' D rz := by
  obtain ⟨u, hb⟩ := hb
  exact ⟨k _ _ nb h.1, fun a ha => k _ _ (ne_of (h.2 a ha) hb (by intro e; cases e)) (h.2 a ha)⟩
theorem rowsAt_pairs {K : PySem.W.Frag} {H : Hp} : ∀ (rz : List (Addr × Nat × List Nat)), (∀ a ∈ rz, H a.1 = some (.tup [tv [a.2.1], tv a.2.2])) → Paired (fun p kv => SqT K H p [kV kv.1, kv.2]) (rz.map (·.1)) (rowsK (rz.map (·.2)))
  | [], _ => .nil
  | a :: r, h => .cons (.inl (.inl (h a List.mem_cons_self))) (rowsAt_pairs r fun q hq => h q (List.mem_cons_of_mem _ hq))
theorem rowsK_merge {rows : List (Nat × List Nat)} (nd : (rows.map (·.1)).Nodup) : mergeK [] (rowsK rows) = rowsK rows := by
  refine merge_fresh (rowsK rows) [] ?_
  show ((rowsK rows).map (·.1)).Nodup
  unfold rowsK
  rw [List.map_map]
  rw [List.nodup_iff_pairwise_ne] at *
  refine List.pairwise_map.mpr ((List.pairwise_map.mp nd).imp ?_)
  intro a b ne e
  exact ne (List.head_eq_of_cons_eq (txt_inj (Sum.inr.inj e)))
theorem once_eq {c : Nat} {x y : List Nat} : ∀ {rows : List (Nat × List Nat)}, (rows.map (·.1)).Nodup → (c, x) ∈ rows → (c, y) ∈ rows → x = y
  | [], _, h, _ => by cases h
  | r :: rs, nd, h, h2 => by
    rw [List.map_cons, List.nodup_cons] at nd
    rcases List.mem_cons.mp h with e | h'
    · rcases List.mem_cons.mp h2 with e2 | h2'
      · rw [← e] at e2
        exact (congrArg Prod.snd e2).symm
      · exact absurd (List.mem_map.mpr ⟨_, h2', by rw [← e]⟩) nd.1
    · rcases List.mem_cons.mp h2 with e2 | h2'
      · exact absurd (List.mem_map.mpr ⟨_, h', by rw [← e2]⟩) nd.1
      · exact once_eq nd.2 h' h2'
end Tm

/-! values of words: the mathematics -/
namespace Tm
open PySem PySem.Spec PyProof.Rows L2
def neg (s : Bool) (x : List Nat) : List Nat := signedL (((s.toNat : Nat) : Int) + ((signL x : Nat) : Int)) (lettersL x)
theorem neg_wd {s t : Bool} {cs : List Nat} (h : Lt cs) : neg s (wd t cs) = wd (s != t) cs := by
  unfold neg
  rw [letters_wd h, sign_wd h, signed_wd]
  cases s <;> cases t <;> rfl
theorem Sn.neg {n : Nat} {s : Bool} {x : List Nat} (h : Sn n x) : Sn n (neg s x) := by
  obtain ⟨t, cs, rfl, l, a⟩ := h
  exact ⟨_, cs, neg_wd a.lt, l, a⟩
theorem two_neg {n : Nat} {s t : Bool} {x y : List Nat} (hx : Sn n x) (hy : Sn n y) : two (Tm.neg s x) (Tm.neg t y) = Tm.neg (s != t) (two x y) := by
  obtain ⟨a, as, rfl, la, ha⟩ := hx
  obtain ⟨b, bs, rfl, lb, hb⟩ := hy
  rw [neg_wd ha.lt, neg_wd hb.lt, two_wd ha hb, two_wd ha hb, neg_wd (zL_al ha hb).lt]
  congr 1
  unfold od
  generalize zS as bs = z
  rcases Nat.mod_two_eq_zero_or_one z with h | h <;> cases s <;> cases t <;> cases a <;> cases b <;> simp [Nat.add_mod, h]
theorem valL_wd {n : Nat} {rows : List (Nat × List Nat)} {s : Bool} {cs : List Nat} (h : Lt cs) : valL n rows (wd s cs) = neg s ((strsOf rows cs).foldl two (List.replicate (sizeN n rows) 49)) := by
  unfold valL prodL neg
  rw [letters_wd h, sign_wd h]
  rfl
theorem fold_two {n : Nat} : ∀ (ys : List (List Nat)) {x : List Nat}, Sn n x → (∀ y ∈ ys, Sn n y) → ys.foldl two x = two x (ys.foldl two (List.replicate n 49))
  | [], x, hx, _ => (two_one hx).symm
  | y :: r, x, hx, hy => by
    have sy := hy y List.mem_cons_self
    have sr := fun z hz => hy z (List.mem_cons_of_mem _ hz)
    rw [List.foldl_cons, List.foldl_cons, fold_two r (hx.two sy) sr, one_two sy, fold_two r sy sr, two_assoc hx sy (Sn.fold (Sn.one n) sr)]
theorem strs_app (rows : List (Nat × List Nat)) (cs ds : List Nat) : strsOf rows (cs ++ ds) = strsOf rows cs ++ strsOf rows ds := List.filterMap_append ..
/-- the value of a product is the product of the values -/
theorem val_join {n : Nat} {rows : List (Nat × List Nat)} (all : ∀ r ∈ rows, Sn n r.2) {s t : Bool} {cs ds : List Nat} (hc : Lt cs) (hd : Lt ds) :
    valL n rows (wd (s != t) (cs ++ ds)) = two (valL n rows (wd s cs)) (valL n rows (wd t ds)) := by
  have hcd : Lt (cs ++ ds) := fun c h => by
    rcases List.mem_append.mp h with h | h
    · exact hc c h
    · exact hd c h
  have s1 := strs_sn all cs
  have s2 := strs_sn all ds
  have f1 := Sn.fold (Sn.one (sizeN n rows)) s1
  have f2 := Sn.fold (Sn.one (sizeN n rows)) s2
  rw [valL_wd hcd, valL_wd hc, valL_wd hd, strs_app, List.foldl_append, two_neg f1 f2, fold_two _ f1 s2]
theorem val_sn {n : Nat} {rows : List (Nat × List Nat)} (all : ∀ r ∈ rows, Sn n r.2) {s : Bool} {cs : List Nat} (hc : Lt cs) : Sn (sizeN n rows) (valL n rows (wd s cs)) := by
  rw [valL_wd hc]
  exact Sn.neg (Sn.fold (Sn.one _) (strs_sn all cs))
theorem val_nil (n : Nat) (rows : List (Nat × List Nat)) : valL n rows [] = List.replicate (sizeN n rows) 49 := by
  have e := valL_wd (n := n) (rows := rows) (s := false) (cs := []) (fun c h => by cases h)
  have e2 : neg false (List.replicate (sizeN n rows) 49) = List.replicate (sizeN n rows) 49 := neg_wd (t := false) (al_ones _).lt
  rw [show valL n rows [] = _ from e]
  exact e2
theorem join_wd {s t : Bool} {cs ds : List Nat} (hc : Lt cs) (hd : Lt ds) : joinL [wd s cs, wd t ds] = wd (s != t) (cs ++ ds) := by
  unfold joinL signsL allL
  simp only [List.map_cons, List.map_nil, List.sum_cons, List.sum_nil, List.flatten_cons, List.flatten_nil, List.append_nil, letters_wd hc, letters_wd hd, sign_wd hc, sign_wd hd]
  rw [signed_wd]
  cases s <;> cases t <;> rfl
theorem lookup_perm {rows rows' : List (Nat × List Nat)} (p : rows'.Perm rows) (nd : (rows.map (·.1)).Nodup) (c : Nat) : rows'.lookup c = rows.lookup c := by
  cases h : rows.lookup c with
  | some x =>
    have m := p.mem_iff.mpr (lookup_mem h)
    obtain ⟨y, hy⟩ := mem_lookup (List.mem_map.mpr ⟨_, m, rfl⟩ : c ∈ rows'.map (·.1))
    rw [hy, once_eq nd (p.mem_iff.mp (lookup_mem hy)) (lookup_mem h)]
  | none =>
    cases h2 : rows'.lookup c with
    | none => rfl
    | some y =>
      obtain ⟨z, hz⟩ := mem_lookup (List.mem_map.mpr ⟨_, p.mem_iff.mp (lookup_mem h2), rfl⟩ : c ∈ rows.map (·.1))
      rw [hz] at h
      cases h
theorem val_perm {n : Nat} {rows rows' : List (Nat × List Nat)} (p : rows'.Perm rows) (nd : (rows.map (·.1)).Nodup) (word : List Nat) : valL n rows' word = valL n rows word := by
  have e1 : sizeN n rows' = sizeN n rows := by
    unfold sizeN
    have l := p.length_eq
    cases rows with
    | nil => rw [List.length_eq_zero_iff.mp l]
    | cons a r =>
      cases rows' with
      | nil => cases l
      | cons _ _ => rfl
  have e2 : ∀ cs, strsOf rows' cs = strsOf rows cs := fun cs => by
    unfold strsOf
    congr 1
    funext c
    exact lookup_perm p nd c
  unfold valL prodL
  rw [e1, e2]
theorem abc_lt {rows : List (Nat × List Nat)} (abc : ∀ r ∈ rows, r.1 ∈ alpha) {cs : List Nat} (h : ∀ c ∈ cs, c ∈ rows.map (·.1)) : Lt cs := fun c hc => by
  obtain ⟨r, hr, rfl⟩ := List.mem_map.mp (h c hc)
  exact alpha_lt (abc r hr)
theorem good_of {rows : List (Nat × List Nat)} {cs : List Nat} (h : ∀ c ∈ cs, c ∈ rows.map (·.1)) : goodW rows cs := fun c hc => mem_lookup (h c hc)
end Tm

/-! the table of a def whose lambdas are made -/
namespace Tm
open PySem PySem.Spec PyProof.Rows L2 LamX
theorem tabs_same {T : List (Addr × Str)} {H H' : Hp} (t : Tabs T H) (s : Same H H') : Tabs T H' := fun p hp => (t p hp).ext s
theorem tabs_keep {T : List (Addr × Str)} {H H' : Hp} {b : Addr} (t : Tabs T H) (hb : ∃ u, H b = some (.lst u)) (k : Kp b H H') : Tabs T H' := by
  obtain ⟨u, hb⟩ := hb
  intro p hp
  obtain ⟨ps, h1, h2, h3⟩ := t p hp
  refine ⟨ps, k _ _ (ne_of h1 hb (by intro e; cases e)) h1, h2, fun pos cv hc => ?_⟩
  obtain ⟨c, e, hcode⟩ := h3 pos cv hc
  exact ⟨c, e, k _ _ (ne_of hcode hb (by intro e; cases e)) hcode⟩
theorem tabs_first {P : Addr} {q : Str} {H : Hp} (h : H P = some (.tbl #[])) : Tabs [(P, q)] H := by
  intro p hp
  rw [List.mem_singleton.mp hp]
  exact ⟨#[], h, by first | trivial | exact TriplesOk.nil | simp [TriplesOk], fun pos cv hc => by cases hc⟩
def spLawT (K : PySem.W.Frag) (P : Addr) : Sp := fun vs H Q _ => ∃ (a : Addr) (ns : List Int), vs = [.ref a] ∧ SqL K H a (ns.map V.int) ∧ ns.length ≤ 63 ∧ H P = some (.tbl #[]) ∧ ∀ H', Q (.bl true) H'
end Tm

/-! a lambda with one default, which its body does not read, handed to a def -/
namespace Tm
open PySem PySem.Spec PyProof.Rows L2 LamX
/-- its own names are none of the maker's; the others are the maker's cells, or global -/
structure LamD (names : List Str) (sc scope : Scope) : Prop where
  isFn : scope.kind = .function
  plain : scope.isCoroutine = false ∧ scope.isGenerator = false
  each : ∀ y ∈ scope.names, y.2 ≠ .cell ∧ (y.2 = .local → y.1 ∉ names) ∧ (y.2 = .free → sc.names.lookup y.1 = some .cell ∨ sc.names.lookup y.1 = some .free)
def lamDB (names : List Str) (sc scope : Scope) : Bool := decide (scope.kind = .function) && (!scope.isCoroutine && !scope.isGenerator) && decide (∀ y ∈ scope.names, y.2 ≠ .cell ∧ (y.2 = .local → y.1 ∉ names) ∧ (y.2 = .free → sc.names.lookup y.1 = some .cell ∨ sc.names.lookup y.1 = some .free))
theorem lamD_by {names : List Str} {sc scope : Scope} (h : lamDB names sc scope = true) : LamD names sc scope := by
  unfold lamDB at h
  rw [Bool.and_eq_true, Bool.and_eq_true, Bool.and_eq_true] at h
  exact ⟨of_decide_eq_true h.1.1, ⟨by simpa using h.1.2.1, by simpa using h.1.2.2⟩, of_decide_eq_true h.2⟩
theorem clo_cell {cells : List (Str × Addr)} {names : List (Str × NameKind)} {y : Str} {c : Addr} (has : ∀ z ∈ names, z.2 = .free → ∃ d, cells.lookup z.1 = some d) (h : (cloFrom cells names []).lookup y = some c) : cells.lookup y = some c := by
  rcases cloFrom_mem (PySem.mem_of_lookup h) with z | ⟨m, e⟩
  · exact absurd z List.not_mem_nil
  · obtain ⟨d, hd⟩ := has (y, .free) m rfl
    have hd' : cells.lookup y = some d := hd
    rw [hd'] at e
    rw [hd', e]
    rfl
theorem clo_has (cells : List (Str × Addr)) {names : List (Str × NameKind)} {y : Str} (h : names.lookup y = some .free) : ∃ c, (cloFrom cells names []).lookup y = some c := L2.mem_lookup (cloFrom_has (PySem.mem_of_lookup h))
section
variable {X : Cx} {s s1 : Shared} {H HZ : Hp} {σ : L2.St} {pins : List (Addr × Obj)}
theorem LamD.has {scope : Scope} (L : LamD X.N X.env.scope scope) (ok : X.Ok) : ∀ y ∈ scope.names, y.2 = .free → ∃ c, X.env.cells.lookup y.1 = some c := fun y hy e => ok.has _ ((L.each y hy).2.2 e)
/-- the body of the lambda begins: its frame is at the end of the heap -/
theorem lamD_enters {A : Around} {outer : List Env} {E : XK} {scope : Scope} {f c' : Addr} {h₁ : Heap} {tk : Nat} {m : Str → Option Value} (I : Inv X pins σ H s) (L : LamD X.N X.env.scope scope) (at_ : Env0 X.prog X.w X.K X.mg X.base A outer s1 HZ) (calm : A.handled = none)
    (since : Un (frs X.stack) [] H HZ s.heap s1.heap) (frame : h₁.Ns s1.heap.objs.size m) (grows : ∀ b o, s1.heap.get? b = some o → h₁.get? b = some o) : Inv (lamCx X A outer s1 HZ E scope f c') [] σ HZ { s1 with heap := h₁, toks := tk } := by
  have cellOf : ∀ {y : Str} {c : Addr}, (cloFrom X.env.cells scope.names []).lookup y = some c → X.env.cells.lookup y = some c := fun e => clo_cell (L.has I.ok) e
  have stays : ∀ {y : Str} {c : Addr} {v : Option Value}, X.env.cells.lookup y = some c → s.heap.IsCell c v → h₁.IsCell c v := by
    rintro y c v hc ⟨o, ho, hd⟩
    obtain ⟨sl, later⟩ := since.any ho (I.freeC y c hc) List.not_mem_nil
    exact ⟨_, grows _ _ later, hd⟩
  have empty : ∀ {P : Prop} (b : Addr), b ∈ (lamCx X A outer s1 HZ E scope f c').ex → P := fun b hb => absurd (show b ∈ ([] : List Addr) from hb) List.not_mem_nil
  have notCell : ∀ {y : Str} {P : Prop}, scope.names.lookup y = some .cell → P := fun h => absurd rfl (L.each _ (PySem.mem_of_lookup h)).1
  exact {
    ok := {
      mod := at_.mod
      kind := L.isFn
      glob := rfl
      blt := rfl
      above := Nat.le_refl _
      inj := fun y z c hy hz => I.ok.inj y z c (cellOf hy) (cellOf hz)
      has := fun y hy => Or.elim (show scope.names.lookup y = some .cell ∨ scope.names.lookup y = some .free from hy) notCell (clo_has X.env.cells)
      cab := fun y c z _ => Bool.noConfusion (show false = true from z)
      hd := fun _ => calm
      frames := Around.frames_deeper at_.frames
      stk := Or.inr ⟨rfl, rfl⟩
      exf := fun b hb => empty b hb
      bs := at_.bs
      bsz := at_.bsz
      noex := fun b _ _ hb => empty b hb
      exfs := fun b hb => empty b hb
      funs := at_.funs
      frf := at_.frf }
    os := rfl
    bare := at_.bare
    base := Un.kept grows
    loc := by
      refine ⟨m, frame, fun i y v hi hv vis => ?_⟩
      rcases (show scope.names.lookup y = some .local ∨ scope.names.lookup y = some .cell ∨ scope.names.lookup y = some .free from vis) with own | z | taken
      · exact absurd (List.mem_of_getElem? hi) ((L.each _ (PySem.mem_of_lookup own)).2.1 rfl)
      · exact notCell z
      · have there := (L.each _ (PySem.mem_of_lookup taken)).2.2 rfl
        obtain ⟨m0, _, slots⟩ := I.loc
        obtain ⟨u, rel, look⟩ := slots i y v hi hv (Or.inr there)
        obtain ⟨d, hd⟩ := clo_has X.env.cells taken
        refine ⟨u, rel, Or.inr ⟨Or.inr taken, d, hd, ?_⟩⟩
        rcases look with ⟨isLocal, _⟩ | ⟨_, d2, hd2, holds⟩
        · have isLocal : X.env.scope.names.lookup y = some .local := isLocal
          rcases there with z | z
          · rw [isLocal] at z; cases z
          · rw [isLocal] at z; cases z
        · have same : d2 = d := Option.some.inj (hd2.symm.trans (cellOf hd))
          rw [← same]
          exact stays hd2 holds
    cell := fun y c hc => by
      obtain ⟨v, is⟩ := I.cell y c (cellOf hc)
      exact ⟨v, stays (cellOf hc) is⟩
    free := at_.hok.fresh (Nat.le_refl _)
    freeC := fun y c hc => by
      obtain ⟨v, o, ho, _⟩ := I.cell y c (cellOf hc)
      exact since.free c o ho (I.freeC y c (cellOf hc)) List.not_mem_nil
    pin := fun p hp => absurd (show p ∈ ([] : List (Addr × Obj)) ++ [] from hp) (by simp)
    hok := at_.hok.kept grows
    len := I.len }
/-- the lambda called where it was handed to -/
theorem pe_askD {Ng : List Str} {qg : Str} {sg : Scope} {g f c' t : Addr} {cdg u doc pm ctv : Value} {params : Arguments} {body : Expr} {scope : Scope} {k i : Nat} {a own : Str} {pn : List (Addr × Obj)} {xe : Value → Shared → Prop} {W : WX} {E : XK} {tb : TE} {p1 p2 : Pos}
    (I : Inv X pins σ H s) (L : LamD X.N X.env.scope scope) (made : s.heap.get? f = some (PySem.W.kdv_obj "<lambda>" (X.env.qual ++ "<lambda>") params (.expr body) scope (cloFrom X.env.cells scope.names []) (.ref t) doc pm c' ctv)) (fNew : H f = none) (fOut : f ∉ frs X.stack)
    (dflt : s.heap.get? t = some (PySem.W.kdv_tup [u])) (tNew : H t = none) (tOut : t ∉ frs X.stack)
    (binds : ∀ fd : FuncData, fd = PySem.W.kdv_fn "<lambda>" (X.env.qual ++ "<lambda>") params (.expr body) scope (cloFrom X.env.cells scope.names []) (.ref t) doc pm (.ref c') ctv → ∃ k, bindArgs fd ⟨[], []⟩ = seqItems? fd.defaults >>= k ∧ k (some [u].toArray) = pure [(own, u)])
    (isOwn : scope.names.lookup own = some .local)
    (tk : Takes ((cxOf C8.CX0 X.prog X.w X.K X.mg X.base Ng qg sg g cdg X.A X.stack s H C8.E0).tr pn xe) W) (wish : ∀ cls d σ' H', E cls d H' → W cls d σ' H') (room : Room (k + 1) (X.A.deeper (envOfC qg sg s.heap.objs.size g cdg)))
    (reads : ∀ (A : Around) (outer : List Env) (s : Shared) (H : Hp), Room k (A.deeper (lamEnv X scope s.heap.objs.size f c')) → PE (lamCx X A outer s H E scope f c') body tb)
    (slot : Ng[i]? = some a) (seen : Vis sg a) (hd : (a == ("__debug__" : Str)) = false := by decide) (hcd : (a == ("__classdict__" : Str)) = false := by decide) :
    PE ((cxOf C8.CX0 X.prog X.w X.K X.mg X.base Ng qg sg g cdg X.A X.stack s H C8.E0).tr pn xe) (.Call (.Name a p1) [] [] p2)
      (fun slots heap want => slots[i]? = some (some (.ref f)) ∧ heap c' = some (CodeO c' (X.env.qual ++ "<lambda>")) ∧ tb σ heap want) := by
  constructor
  rintro pinsZ sZ σZ HZ Q IZ ⟨atSlot, code, told⟩
  refine wpAny_Call_Name_kw ?_
  have name := (pe_var (pos := p1) (i := i) slot seen hd hcd).run pinsZ sZ σZ HZ (fun v H1 => v = .ref f ∧ H1 = HZ) IZ ⟨_, atSlot, rfl, rfl⟩
  refine thn name ?_
  rintro v0 s1 ⟨v, H1, I1, rel, rfl, rfl⟩
  obtain rfl : v0 = Value.ref f := rel
  have noEx : ∀ b : Addr, b ∉ ([] : List Addr) := fun _ => List.not_mem_nil
  have f1 := I1.base.keep f _ made fNew fOut (noEx f)
  have t1 := I1.base.keep t _ dflt tNew tOut (noEx t)
  refine PySem.W.callWith_F0 ⟨_, _, _, _, f1⟩ (wpAny_call ?_)
  obtain ⟨⟨oc, cells, tok, hoc, hdata, hname⟩, _, _⟩ := I1.hok c' _ code
  obtain ⟨next, b1, b2⟩ := binds _ rfl
  have bound : BindsTo s1 (PySem.W.kdv_fn "<lambda>" (X.env.qual ++ "<lambda>") params (.expr body) scope (cloFrom X.env.cells scope.names []) (.ref t) doc pm (.ref c') ctv) ⟨[], []⟩ [(own, u)] := BindsTo.of_defaults rfl t1 rfl b1 b2
  have run : codeAny (model X.prog X.w) (X.A.deeper (envOfC qg sg s.heap.objs.size g cdg)) (.call (.ref f) ⟨[], []⟩) (CR (L2.CX X.prog X.w) (envOfC qg sg s.heap.objs.size g cdg :: X.stack) X.prog X.w H1 s1 Q E) s1 := by
    refine PySem.W.kla_callFunE room.depth f1 rfl L.plain.1 L.plain.2 rfl ⟨c', oc, cells, tok, rfl, hoc, hdata, hname⟩ (bound _ _ _ _ ?_)
    refine wpAny_newFunctionEnv (fun y hy => (L.each y hy).1) (fun y hy => ?_) (fun h₁ ns but => ⟨I1.nolimit.fresh _ but, ?_⟩) L.isFn
    · rw [List.mem_singleton.mp hy]
      exact isOwn
    · have grows : ∀ b o, s1.heap.get? b = some o → h₁.get? b = some o := fun b o e => but.extBut b o (Nat.ne_of_lt (Heap.lt_size e)) (Heap.get?_push_of_some _ e)
      refine PySem.W.kla_codeExpr ?_
      have inside := lamD_enters (E := E) (f := f) (c' := c') (tk := s1.toks + [(own, u)].length) I L I1.env0 room.hd I1.base ns grows
      refine wpAny_mono ((reads _ _ s1 H1 (room.deeper _)).run [] _ _ H1 Q inside told) ?_ (fun _ _ x => x)
      rintro v1 s2 ⟨w1, H2, I2, r2, q2⟩
      exact ⟨w1, H2, I2.os, I2.bare, I2.base, I2.hok, r2, q2⟩
  refine codeAny_mono run ?_
  rintro (err | flow) s2 done
  · exact passes_call tk wish pinsZ σZ H1 s1 err s2 I1 done
  · cases flow with
    | ret v2 => exact I1.after done
    | next => exact done.elim
    | brk => exact done.elim
    | cont => exact done.elim
/-- the table with one more code object of the name q -/
theorem tabs_more {T : List (Addr × Str)} {P c' : Addr} {q : Str} {ps : Array Value} {l1 l2 : Nat} {pos : Pos} (all : Tabs T H) (only : ∀ p ∈ T, p.1 = P → p.2 = q) (at_ : H P = some (.tbl ps)) (ok : TriplesOk ps.toList) (named : ∀ (pos : Pos) (cv : Value), codeAmong pos ps.toList = some cv → ∃ c, cv = .ref c ∧ H c = some (CodeO c q)) (new : H c' = none) :
    ExtN H (upd (upd H P (.tbl (ps ++ #[rawInt pos.line, rawInt pos.col, .ref c']))) c' (CodeO c' q)) ∧ Tabs T (upd (upd H P (.tbl (ps ++ #[rawInt pos.line, rawInt pos.col, .ref c']))) c' (CodeO c' q)) := by
  have ext : ExtN H (upd (upd H P (.tbl (ps ++ #[rawInt pos.line, rawInt pos.col, .ref c']))) c' (CodeO c' q)) := by
    intro b o hb noTab
    have n1 : b ≠ c' := ne_of_none hb new
    have n2 : b ≠ P := by
      rintro rfl
      exact noTab ps (Option.some.inj (hb.symm.trans at_))
    rw [upd_ne n1, upd_ne n2]
    exact hb
  refine ⟨ext, fun p hp => ?_⟩
  by_cases here : p.1 = P
  · have eL : (ps ++ #[rawInt pos.line, rawInt pos.col, .ref c']).toList = ps.toList ++ [rawInt pos.line, rawInt pos.col, .ref c'] := Array.toList_append
    rw [only p hp here, here]
    refine ⟨ps ++ #[rawInt pos.line, rawInt pos.col, .ref c'], ?_, ?_, ?_⟩
    · rw [upd_ne (ne_of_none at_ new), upd_same]
    · rw [eL]
      exact PySem.TriplesOk_snoc _ _ _ _ ok
    · intro pos' cv hcv
      rw [eL] at hcv
      rcases among_app _ ok hcv with old | rfl
      · obtain ⟨c0, e0, h0⟩ := named pos' cv old
        exact ⟨c0, e0, ext _ _ h0 codeO_ne⟩
      · exact ⟨c', rfl, upd_same⟩
  · obtain ⟨ps', h1, h2, h3⟩ := all p hp
    refine ⟨ps', ?_, h2, fun pos' cv hcv => ?_⟩
    · rw [upd_ne (ne_of_none h1 new), upd_ne here]
      exact h1
    · obtain ⟨c0, e0, h0⟩ := h3 pos' cv hcv
      exact ⟨c0, e0, ext _ _ h0 codeO_ne⟩
theorem far {f : Addr} (I : Inv X pins σ H s) (h : s.heap.objs.size ≤ f) : f ∉ frs X.stack := fun z => by
  have on := I.stkSub _ z
  rw [List.mem_cons] at on
  cases on with
  | inl e =>
    have lt := I.lt
    rw [← e] at lt
    exact absurd (Nat.lt_of_lt_of_le lt h) (Nat.lt_irrefl _)
  | inr e => exact I.nofs h e
/-- lambda a=e: .. is made -/
theorem madeD {T : List (Addr × Str)} {c P : Addr} {params : Arguments} {body e : Expr} {scope : Scope} {pos : Pos} {te : TE} {Q : Value → Shared → Prop} (I : Inv X pins σ H s) (TB : TabB X.base X.mg c P) (hcode : X.env.code = .ref c)
    (mem : (P, X.env.qual ++ "<lambda>") ∈ T) (only : ∀ p ∈ T, p.1 = P → p.2 = X.env.qual ++ "<lambda>") (L : LamD X.N X.env.scope scope) (one : params.defaults = [e]) (noKw : params.kw_defaults = []) (told : PE X e te)
    {R : VK} (ask : te σ H R) (then_ : ∀ v H0, R v H0 → Tabs T H0 ∧ ∀ (f c' t : Addr) (u pm ctv doc : Value) (H1 : Hp) (s' : Shared), Inv X pins σ H1 s' → ExtN H0 H1 → Tabs T H1 →
      s'.heap.get? f = some (PySem.W.kdv_obj "<lambda>" (X.env.qual ++ "<lambda>") params (.expr body) scope (cloFrom X.env.cells scope.names []) (.ref t) doc pm c' ctv) → H1 f = none → f ∉ frs X.stack →
      s'.heap.get? t = some (PySem.W.kdv_tup [u]) → H1 t = none → t ∉ frs X.stack → H1 c' = some (CodeO c' (X.env.qual ++ "<lambda>")) → Q (.ref f) s') :
    wpAny (model X.prog X.w) X.A (eval (.Lambda params body scope pos) X.env) Q X.xe s := by
  refine PySem.W.kdv_lam (by rw [one]; rfl) noKw ?_
  rw [one]
  refine PySem.W.kdv_all1 (thn (told.run pins s σ H _ I ask) ?_)
  rintro u s0 ⟨v, H0, I0, _, asked⟩
  obtain ⟨all, hand⟩ := then_ v H0 asked
  refine PySem.W.kdv_all0 ?_
  rw [makeFunction_eq]
  simp only [List.zip_nil_right, List.filterMap_nil, List.isEmpty_nil, List.isEmpty_cons, if_true, pure_bind, Bool.false_eq_true, if_false]
  apply wpAny_bind
  apply wpAny_newTextTuple
  have I2 : Inv X pins σ H0 { s0 with heap := s0.heap.push (PySem.W.kdv_tup [u]) } := I0.kept (t' := s0.toks) (fun b o hb => Heap.get?_push_of_some _ hb)
  have t2 : (s0.heap.push (PySem.W.kdv_tup [u])).get? s0.heap.objs.size = some (PySem.W.kdv_tup [u]) := Heap.get?_push_size _ rfl
  have tFree : H0 s0.heap.objs.size = none := I0.hok.fresh (Nat.le_refl _)
  have tFar : s0.heap.objs.size ∉ frs X.stack := far I0 (Nat.le_refl _)
  obtain ⟨ps, hP, ok, named⟩ := all _ mem
  have atP : (s0.heap.push (PySem.W.kdv_tup [u])).get? P = some { cls := .none, data := .fields ps } := I2.hok P _ hP
  cases found : codeAmong pos ps.toList with
  | none =>
    refine PySem.W.kdv_makeTail (mg := X.mg) (c := c) (P := P) (ps := ps) (closure_ok (L.has I.ok)) I2.ok.glob (I2.mod.glob.keeps I2.bk) hcode (TB.code.keeps I2.bk) atP ok found TB.gP (TB.bm.keeps I2.bk) ?_
    intro c' ctv doc h' tk but ge lt rec_ grown
    obtain ⟨c2, oc, vs, tok, e2, hoc, hdata, hname⟩ := rec_
    cases e2
    have cFree : H0 c' = none := I2.hok.fresh ge
    have big : (s0.heap.push (PySem.W.kdv_tup [u])).objs.size ≤ h'.objs.size := Nat.le_trans ge (Nat.le_of_lt lt)
    have tabs := tabs_more (l1 := 0) (l2 := 0) (pos := pos) all only hP ok named cFree
    have I3 := inv_table (t' := tk) (more := #[rawInt pos.line, rawInt pos.col, .ref c']) (h' := h'.push (PySem.W.kdv_obj "<lambda>" (X.env.qual ++ "<lambda>") params (.expr body) scope (cloFrom X.env.cells scope.names []) (.ref s0.heap.objs.size) doc ((X.mg "__name__").getD .none) c' ctv)) I2 hP
      (fun b o nb hb => Heap.get?_push_of_some _ (but b o nb hb)) (Heap.get?_push_of_some _ grown) ge ⟨oc, vs, tok, Heap.get?_push_of_some _ hoc, hdata, hname⟩
    have tNe : s0.heap.objs.size ≠ P := fun z => by rw [z, hP] at tFree; cases tFree
    have fFree : ∀ {b : Addr}, b ≠ c' → b ≠ P → H0 b = none → (upd (upd H0 P (.tbl (ps ++ #[rawInt pos.line, rawInt pos.col, .ref c']))) c' (CodeO c' (X.env.qual ++ "<lambda>"))) b = none := fun n1 n2 h => by
      rw [upd_ne n1, upd_ne n2]
      exact h
    have tc : s0.heap.objs.size ≠ c' := fun z => by
      have q := Heap.lt_size t2
      rw [z] at q
      exact Nat.lt_irrefl _ (Nat.lt_of_lt_of_le q ge)
    have fP : h'.objs.size ≠ P := fun z => by
      have q := Heap.lt_size atP
      rw [← z] at q
      exact Nat.lt_irrefl _ (Nat.lt_of_lt_of_le q big)
    exact hand _ c' _ u _ ctv doc _ _ I3 tabs.1 tabs.2 (Heap.get?_push_size _ rfl) (fFree (Nat.ne_of_gt lt) fP (I2.hok.fresh big)) (far I2 big) (Heap.get?_push_of_some _ (but _ _ tNe t2)) (fFree tc tNe tFree) tFar upd_same
  | some cv =>
    obtain ⟨c', rfl, hco⟩ := named pos cv found
    refine PySem.W.kdv_makeTailHit (mg := X.mg) (c := c) (P := P) (ps := ps) (closure_ok (L.has I.ok)) I2.ok.glob (I2.mod.glob.keeps I2.bk) hcode (TB.code.keeps I2.bk) atP ok found (TB.bm.keeps I2.bk) ?_
    intro ctv doc h' tk grows big
    have I3 : Inv X pins σ H0 { s0 with heap := h'.push (PySem.W.kdv_obj "<lambda>" (X.env.qual ++ "<lambda>") params (.expr body) scope (cloFrom X.env.cells scope.names []) (.ref s0.heap.objs.size) doc ((X.mg "__name__").getD .none) c' ctv), toks := tk } := I2.kept fun b o hb => Heap.get?_push_of_some _ (grows b o hb)
    exact hand _ c' _ u _ ctv doc H0 _ I3 (ExtN.refl H0) all (Heap.get?_push_size _ rfl) (I2.hok.fresh big) (far I2 big) (Heap.get?_push_of_some _ (grows _ _ t2)) tFree tFar hco
end
def tLamD (T : List (Addr × Str)) (TT : (XK → Hp → VK → Prop) → Hp → VK → Prop) (te : TE) (t : XK → TE) : TE := fun σ H Q => te σ H fun _ H0 => Tabs T H0 ∧ ∀ H1, ExtN H0 H1 → Tabs T H1 → TT (fun E H' Q' => t E σ H' Q') H1 Q
/-- x(lambda a=e: body) -/
theorem pe_lamD {X : Cx} {T : List (Addr × Str)} {TT : (XK → Hp → VK → Prop) → Hp → VK → Prop} {x a own : Str} {g c P : Addr} {k : Nat} {pg : Arguments} {bg : List Stmt} {sg : Scope} {dV kV doc pm cdv ct oc : Value} {an od : Option Addr} {osl : Array (Option Value)} {Ng : List Str}
    {params : Arguments} {body e : Expr} {scope : Scope} {te : TE} {t : XK → TE} {p lpos pos : Pos} (isG : Gl X x) (is : X.mg x = some (.ref g)) (kept : PySem.W.keepIn X.K (.ref g) = true)
    (written : X.K.lookup g = some ⟨oc, od, .func (PySem.W.fnOf x x pg bg sg dV kV doc pm an cdv ct), osl⟩) (hcode : PySem.W.codeIn X.K cdv x = true) (binds : L2.Binds X.K (PySem.W.fnOf x x pg bg sg dV kV doc pm an cdv ct) [a] []) (scG : FnScope Ng [a] sg) (slot : Ng[0]? = some a) (seen : Vis sg a)
    (gives : GivesTo X Ng x sg g cdv bg a (X.env.qual ++ "<lambda>") TT)
    (TB : TabB X.base X.mg c P) (mine : X.env.code = .ref c) (mem : (P, X.env.qual ++ "<lambda>") ∈ T) (only : ∀ p ∈ T, p.1 = P → p.2 = X.env.qual ++ "<lambda>") (room : Room (k + 2) X.A) (L : LamD X.N X.env.scope scope) (one : params.defaults = [e]) (noKw : params.kw_defaults = []) (told : PE X e te)
    (bindL : ∀ (q : Str) (cl : List (Str × Addr)) (dv doc pm cv ctv u : Value), ∃ k, bindArgs (PySem.W.kdv_fn "<lambda>" q params (.expr body) scope cl dv doc pm cv ctv) ⟨[], []⟩ = seqItems? dv >>= k ∧ k (some [u].toArray) = pure [(own, u)]) (isOwn : scope.names.lookup own = some .local)
    (reads : ∀ (A : Around) (outer : List Env) (s : Shared) (H : Hp) (E : XK) (f c' : Addr), Room k (A.deeper (lamEnv X scope s.heap.objs.size f c')) → PE (lamCx X A outer s H E scope f c') body (t E))
    (hd : (a == ("__debug__" : Str)) = false := by decide) (hcd : (a == ("__classdict__" : Str)) = false := by decide) (hdb : (x == ("__debug__" : Str)) = false := by decide) : PE X (.Call (.Name x p) [.Lambda params body scope lpos] [] pos) (tLamD T TT te t) := by
  constructor
  intro pins s σ H Q I ask
  refine wpAny_Call_Name_kw (ld_glob I isG is (PySem.W.callWith_K (h₀ := X.base) I.ok.mod.kin kept ?_ (by rfl) (by rfl)) hdb)
  apply Calls.spliced_cons (x := eval (.Lambda params body scope lpos) X.env) (rest := backTo pos (starEach [] X.env))
  refine madeD I TB mine mem only L one noKw told ask ?_
  rintro v0 H0 ⟨all, rest⟩
  refine ⟨all, fun f c' t0 u pm' ctv doc' H1 s1 I1 ext tabs made fNew fOut dflt tNew tOut code => ?_⟩
  refine Calls.spliced_nil ⟨I1.kIn, wpAny_call ?_⟩
  have run : codeAny (model X.prog X.w) X.A (.call (.ref g) ⟨[.ref f], []⟩) (CR C8.CX0 X.stack X.prog X.w H1 s1 Q C8.E0) s1 := by
    refine run_ofS (N := Ng) (ps := [a]) (us := [.ref f]) (vs := [.ref f]) written hcode scG room I1.env0 (binds s1 [.ref f] I1.kIn rfl) (.cons rfl .nil) rfl fun inner => ?_
    have act := gives f c' s1 H1 Q (fun E H' Q' => t E σ H' Q') (fun W pn xe E p1 p2 tk wish => pe_askD (i := 0) I1 L made fNew fOut dflt tNew tOut
      (fun fd e => by subst e; exact bindL _ _ _ _ _ _ _ u) isOwn tk wish inner (fun A outer s H r => reads A outer s H E f c' r) slot seen hd hcd) code (rest H1 ext tabs)
    obtain ⟨t', walk, ends⟩ := act
    exact ⟨t', walk.nox, ends⟩
  refine codeAny_mono run ?_
  rintro (err | flow) s2 done
  · exact (show False from done).elim
  · cases flow with
    | ret v2 => exact I1.after done
    | next => exact done.elim
    | brk => exact done.elim
    | cont => exact done.elim
end Tm

namespace Tm
open PySem PySem.Spec PyProof.Rows L2
/-- len within a comprehension -/
def rLenK (K : PySem.W.Frag) : List V → Hp → VK → Prop := fun xs H Q => ∃ p ys, xs = [.ref p] ∧ (SqL K H p ys ∨ SqT K H p ys) ∧ Q (.int (ys.length : Nat)) H
theorem cr_lenK {X : Cx} : CallR X (.builtin "len") (rLenK X.K) := call_len_seq
end Tm

namespace T78
open PySem PySem.Spec PyProof.Rows L2 Tm
open LamX L2H ClX NdefX
abbrev sLaw : Stmt := topS 63
theorem scLaw : FnScope ["_law_script", "_law_bag_here", "_law_turn", "_law_raw_here", "_law_size_here", "_law_made", "_law_strings_in", "_law_step", "_law_texts", "_law_text_here", "_law_paper", "_law_strange", "_law_letter"] ["_law_script"] (defScope sLaw) := ⟨rfl, rfl, rfl, by decide +kernel, rfl, by decide +kernel, by decide +kernel⟩
def lamName : Str := (envOfC "law" (defScope sLaw) 0 0 .none).qual ++ "<lambda>"
section
variable {P : Program} {w : World} {K : PySem.W.Frag} {mg : Str → Option Value} {base : Heap}
def spGiven (K : PySem.W.Frag) (C od : Addr) (args : List V) (prs : List (Int × Int)) : Sp := fun vs H Q E => spBuilt K C args prs (vs ++ [.ref od]) H Q E
theorem eqv_tvs {H : Hp} {p q : Addr} {ns : List (List Nat)} (hp : H p = some (.lst (ns.map tv))) (hq : H q = some (.lst (ns.map tv))) (few : ns.length ≤ 10000) : Eqv H 1 (.ref p) (.ref q) := by
  refine .lst hp hq rfl (by rw [List.length_map]; exact few) ?_
  intro i x y hx hy
  rw [hx] at hy
  cases hy
  obtain ⟨z, _, rfl⟩ := List.mem_map.mp (List.mem_of_getElem? hx)
  exact .str 0 (txt z)
theorem eqv_bls {H : Hp} {p q : Addr} {bs : List Bool} (hp : H p = some (.lst (bs.map V.bl))) (hq : H q = some (.lst (bs.map V.bl))) (few : bs.length ≤ 10000) : Eqv H 1 (.ref p) (.ref q) := by
  refine .lst hp hq rfl (by rw [List.length_map]; exact few) ?_
  intro i x y hx hy
  rw [hx] at hy
  cases hy
  obtain ⟨z, _, rfl⟩ := List.mem_map.mp (List.mem_of_getElem? hx)
  exact .bl 0 z
theorem tabs_put {T : List (Addr × Str)} {H : Hp} {d : Addr} {kvs : List (Key × V)} {o : HO} (t : Tabs T H) (hd : H d = some (.dK kvs)) : Tabs T (upd H d o) := by
  intro p hp
  obtain ⟨ps, h1, h2, h3⟩ := t p hp
  refine ⟨ps, by rw [upd_ne (ne_of h1 hd (by intro e; cases e))]; exact h1, h2, fun pos cv hc => ?_⟩
  obtain ⟨c, e, hcode⟩ := h3 pos cv hc
  exact ⟨c, e, by rw [upd_ne (ne_of hcode hd (by intro e; cases e))]; exact hcode⟩
theorem certF_table (v : V) (d : Addr) : (certF v d).lookup ("table" : Str) = none := by
  have n1 : ¬ (("table" : Str) = "rows") := by decide +kernel
  have n2 : ¬ (("table" : Str) = "shown") := by decide +kernel
  unfold certF
  rw [lookup_putF, if_neg n1, lookup_putF, if_neg n2]
  rfl
/-- one thing by its place, one by its name -/
def kw1 {α : Type} : List α → List α → List α
  | [x], [z] => [x, z]
  | _, _ => []
theorem kb_call {kV doc pm cd ct : Value} {an : Option Addr} : KBinds K (PySem.W.fnOf "__call__" "TableCertificate.__call__" (defArgs sTCall) (defBody sTCall) (defScope sTCall) .none kV doc pm an cd ct) ["self", "word"] ["word"] kw1 kw1 := by
  refine ⟨fun s us ws _ hl => ?_, fun r1 r2 => ?_⟩
  · match us, ws, hl with
    | [_], [_], _ => exact .of_eq rfl
    | [], _, hl => exact absurd hl (by simp [kw1])
    | _ :: _ :: _, _, hl => exact absurd hl (by simp [kw1])
    | [_], [], hl => exact absurd hl (by simp [kw1])
    | [_], _ :: _ :: _, hl => exact absurd hl (by simp [kw1])
  · cases r1 with
    | nil => exact .nil
    | cons a r =>
      cases r with
      | nil =>
        cases r2 with
        | nil => exact .nil
        | cons b r' =>
          cases r' with
          | nil => exact .cons a (.cons b .nil)
          | cons => exact .nil
      | cons => exact .nil

set_option maxHeartbeats 1500000 in
theorem ok_law {f fB fP fO fE fA fR fW fY fT fS fU fTi fTc fTr fHas CTC C CI CT CM fX fF c PT pMt gMt pC gComp odC : Addr} {mc : Value} {fd fdB fdP fdO fdE fdA fdR fdW fdY fdT fdS fdU fdTi fdTc fdTr fdHas fdEm : FuncData} {kVX docX pmX cdX ctX ocX kVF docF pmF cdF ctF ocF : Value} {anX odX anF odF : Option Addr} {slX slF : Array (Option Value)}
    {oc kV dc pm ct : Value} {od an : Option Addr} {sl : Array (Option Value)}
    (lk : K.lookup f = some ⟨oc, od, .func (PySem.W.fnOf "law" "law" (defArgs sLaw) (defBody sLaw) (defScope sLaw) .none kV dc pm an (.ref c) ct), sl⟩) (cc : PySem.W.codeIn K (.ref c) "law" = true)
    (GB : FnOk P w K mg base CX0 1 fB fdB ["_law_script"] (spBag K)) (FB : Fun K "_law_bag" "_law_bag" sBag fB fdB) (bB : Binds K fdB ["_law_script"] []) (gB : mg "_law_bag" = some (.ref fB))
    (GP : FnOk P w K mg base CX0 1 fP fdP ["_law_bag_here", "_law_many"] spPull) (FP : Fun K "_law_pull" "_law_pull" sPull fP fdP) (bP : Binds K fdP ["_law_bag_here", "_law_many"] []) (gP : mg "_law_pull" = some (.ref fP))
    (GO : FnOk P w K mg base CX0 2 fO fdO ["_law_bag_here", "_law_things"] (spOf K)) (FO : Fun K "_law_of" "_law_of" sOf fO fdO) (bO : Binds K fdO ["_law_bag_here", "_law_things"] []) (gO : mg "_law_of" = some (.ref fO))
    (GE : FnOk P w K mg base CX0 2 fE fdE ["_law_found", "_law_due"] (spSame 1)) (FE : Fun K "_law_same" "_law_same" sSame fE fdE) (bE : Binds K fdE ["_law_found", "_law_due"] []) (gE : mg "_law_same" = some (.ref fE))
    (GA : FnOk P w K mg base CX0 1 fA fdA [] spLets) (FA : Fun K "_law_letters" "_law_letters" sLets fA fdA) (bA : Binds K fdA [] []) (gA : mg "_law_letters" = some (.ref fA))
    (GR : FnOk P w K mg base CX0 3 fR fdR ["_law_bag_here", "_law_wide", "_law_many"] spRawN) (FR : Fun K "_law_raw" "_law_raw" sRaw fR fdR) (bR : Binds K fdR ["_law_bag_here", "_law_wide", "_law_many"] []) (gR : mg "_law_raw" = some (.ref fR))
    (GW : FnOk P w K mg base CX0 5 fW fdW ["_law_raw_here"] (spLWebG C)) (FW : Fun K "_law_web" "_law_web" sLWeb fW fdW) (bW : Binds K fdW ["_law_raw_here"] []) (gW : mg "_law_web" = some (.ref fW))
    (GY : FnOk P w K mg base CX0 1 fY fdY ["_law_text_here"] spLBody) (FY : Fun K "_law_body" "_law_body" sLBody fY fdY) (bY : Binds K fdY ["_law_text_here"] []) (gY : mg "_law_body" = some (.ref fY))
    (GT : FnOk P w K mg base CX0 3 fT fdT ["_law_bag_here", "_law_raw_here", "_law_most"] spTextE) (FT : Fun K "_law_text" "_law_text" sLText fT fdT) (bT : Binds K fdT ["_law_bag_here", "_law_raw_here", "_law_most"] []) (gT : mg "_law_text" = some (.ref fT))
    (GS : FnOk P w K mg base CX0 3 fS fdS ["_law_bag_here", "_law_size_here"] spString) (FS : Fun K "_law_string" "_law_string" sLString fS fdS) (bS : Binds K fdS ["_law_bag_here", "_law_size_here"] []) (gS : mg "_law_string" = some (.ref fS))
    (GU : FnOk P w K mg base CX0 4 fU fdU ["_law_strings_in", "_law_text_here"] spLValue) (FU : Fun K "_law_value" "_law_value" sLValue fU fdU) (bU : Binds K fdU ["_law_strings_in", "_law_text_here"] []) (gU : mg "_law_value" = some (.ref fU))
    (ZT : CertT K CTC) (MT : Mk K CTC fTi) (gTC : mg "TableCertificate" = some (.ref CTC)) (GTi : FnOk P w K mg base CX0 2 fTi fdTi ["self", "web", "table"] (spTInit CTC)) (bTi : Binds K fdTi ["self", "web", "table"] [])
    (cTc : Calls_ K CTC fTc) (GTc : FnOk P w K mg base (L2.CX P w) 6 fTc fdTc ["self", "word"] (spTCall CTC CI)) (bTc : Binds K fdTc ["self", "word"] []) (kbTc : KBinds K fdTc ["self", "word"] ["word"] kw1 kw1)
    (GTr : FnOk P w K mg base CX0 1 fTr fdTr ["self"] (spTRows CTC)) (bTr : Binds K fdTr ["self"] []) (mTr : Meth K CTC "table" fTr)
    (aHas : PySem.W.findIn K (.ref C) "__contains__" = some (some (.ref fHas))) (iHas : PySem.W.isFn K (.ref fHas) = true) (GHas : FnOk P w K mg base CX0 1 fHas fdHas ["self", "x"] (spWHas C)) (bHas : Binds K fdHas ["self", "x"] [])
    (TT0 : ChkT K mg C mc) (cE : Stat K C mc "empty" pMt gMt) (GEm : FnOk P w K mg base CX0 5 gMt fdEm [] (spEmpty C)) (bEm : Binds K fdEm [] [])
    (cC : CMet K C mc "complete" pC gComp) (RC : FnR P w K mg base CX0 5 gComp (spGiven K C odC [.int 3] (rowsP (· + 1) 3 3))) (qC : ∀ H, SqT K H odC [])
    (gX : mg "_law_tried" = some (.ref fX)) (kX : PySem.W.keepIn K (.ref fX) = true) (lX : K.lookup fX = some ⟨ocX, odX, .func (PySem.W.fnOf "_law_tried" "_law_tried" (defArgs sTried) (defBody sTried) (defScope sTried) .none kVX docX pmX anX cdX ctX), slX⟩) (cX : PySem.W.codeIn K cdX "_law_tried" = true)
    (bX : L2.Binds K (PySem.W.fnOf "_law_tried" "_law_tried" (defArgs sTried) (defBody sTried) (defScope sTried) .none kVX docX pmX anX cdX ctX) ["_law_ask"] [])
    (lF : K.lookup fF = some ⟨ocF, odF, .func (PySem.W.fnOf "_law_field" "_law_field" (defArgs sField) (defBody sField) (defScope sField) .none kVF docF pmF anF cdF ctF), slF⟩) (cF : PySem.W.codeIn K cdF "_law_field" = true)
    (bF : L2.Binds K (PySem.W.fnOf "_law_field" "_law_field" (defArgs sField) (defBody sField) (defScope sField) .none kVF docF pmF anF cdF ctF) ["_law_e"] []) (gF : mg "_law_field" = some (.ref fF)) (kF : PySem.W.keepIn K (.ref fF) = true)
    (gCT : mg "ThreadError" = some (.ref CT)) (gCM : mg "Missing" = some (.ref CM)) (x1 : PySem.W.exmOne K (.ref CI) (.ref CT) = some true) (xf : XfC K CI) (nc : PySem.W.findIn K (.ref CI) "code" = some none) (hpos : PySem.W.findIn K (.ref CI) "position" = some none)
    (TB : TabB base mg c PT) (mr : mg "range" = none) (md : mg "dict" = none) (mli : mg "list" = none) (ml : mg "len" = none) (mso : mg "sorted" = none) :
    FnOk P w K mg base CX0 11 f (PySem.W.fnOf "law" "law" (defArgs sLaw) (defBody sLaw) (defScope sLaw) .none kV dc pm an (.ref c) ct) ["_law_script"] (spLawT K PT) := by
  refine fn_of lk cc scLaw (fun vs H Q E h => ?_) (fun A0 outer s H vs Q E hr h => ?_)
  · obtain ⟨a, ns, rfl, _⟩ := h
    rfl
  · obtain ⟨a, ns, rfl, sa, few, tab0, hand⟩ := h
    have hr1 : Room 1 _ := hr.mono (by decide)
    have hr2 : Room 2 _ := hr.mono (by decide)
    have hr3 : Room 3 _ := hr.mono (by decide)
    have hr4 : Room 4 _ := hr.mono (by decide)
    have hr5 : Room 5 _ := hr.mono (by decide)
    have hr6 : Room 6 _ := hr.mono (by decide)
    have hr7 : Room 7 _ := hr.mono (by decide)
    have hr8 : Room 8 _ := hr.mono (by decide)
    have hr9 : Room 9 _ := hr.mono (by decide)
    have hr10 : Room 10 _ := hr.mono (by decide)
    refine ⟨_, PSs.nox (pss_cons (ps_set (i := 1) scLaw.nd rfl (.inr rfl) (pe_call GB hr1 (by rfl) gB FB.kp bB .nil pass0 (pa_cons (pv 0) pa_nil)))
      (pss_cons (ps_for PassesOwn.never rfl (pi_range1 (by rfl) mr (pa_cons pe_int pa_nil)) (pg_name (i := 2) scLaw.nd rfl (.inl rfl)) (pss_cons (ps_asg (pe_tup (pa_cons (pe_call GR hr3 (by rfl) gR FR.kp bR .nil pass0 (pa_cons (pv 1) (pa_cons pe_int (pa_cons pe_int pa_nil)))) (pa_cons (pe_call GP hr1 (by rfl) gP FP.kp bP .nil pass0 (pa_cons (pv 1) (pa_cons pe_int pa_nil))) pa_nil))) (pg_tup rfl (pgs_cons (pg_name (i := 3) scLaw.nd rfl (.inr rfl)) (pgs_cons (pg_name (i := 4) scLaw.nd rfl (.inr rfl)) pgs_nil))))
        (pss_cons (ps_set (i := 5) scLaw.nd rfl (.inr rfl) (pe_call GW hr5 (by rfl) gW FW.kp bW .nil pass0 (pa_cons (pv 3) pa_nil)))
        (pss_cons (ps_set (i := 6) scLaw.nd rfl (.inl rfl) (pe_callTy (call_dictP rfl) (by rfl) md (by decide +kernel) (pa_cons (pe_lc (own := [("_law_letter", 12)]) (g := gName 12) (tt := tYes) rfl scLaw.nd (pi_list (pe_callB (call_sortedD rfl) (by rfl) mso (by decide +kernel) (pa_cons (pe_ix ix_tup (pv 3) pe_int (fun _ _ => rfl)) pa_nil))) (blkOk_by (own := [("_law_letter", 12)]) (N := ["_law_script", "_law_bag_here", "_law_turn", "_law_raw_here", "_law_size_here", "_law_made", "_law_strings_in", "_law_step", "_law_texts", "_law_text_here", "_law_paper", "_law_strange", "_law_letter"]) (sc := defScope sLaw) (by decide +kernel)) (fun _ _ _ _ _ => pg_name (i := 12) scLaw.nd rfl (Or.inl rfl)) (fun _ _ _ _ _ => pts_nil) (fun _ _ _ _ _ => (pe_tup (pa_cons (pv 12) (pa_cons (pe_call GS hr3 (by rfl) gS FS.kp bS .nil pass0 (pa_cons (pv 1) (pa_cons (pv 4) pa_nil))) pa_nil))))) pa_nil)))
        (pss_cons (ps_set (i := 10) scLaw.nd rfl (.inr rfl) (pe_make MT GTi hr3 (by rfl) gTC bTi .nil pass0 (pa_cons (pv 5) (pa_cons (pv 6) pa_nil))))
        (pss_cons (ps_for PassesOwn.never rfl (pi_range1 (by rfl) mr (pa_cons pe_int pa_nil)) (pg_name (i := 7) scLaw.nd rfl (.inl rfl)) (pss_cons (ps_set (i := 9) scLaw.nd rfl (.inr rfl) (pe_call GT hr3 (by rfl) gT FT.kp bT .nil pass0 (pa_cons (pv 1) (pa_cons (pv 3) (pa_cons pe_int pa_nil)))))
        (pss_cons (ps_if (pt_not (pt_val (pe_call GE hr2 (by rfl) gE FE.kp bE .nil pass0 (pa_cons (pe_lst (pa_cons (pe_inst cTc GTc hr6 bTc passL (pv 10) (pa_cons (pv 9) pa_nil)) (pa_cons (pe_instK cTc GTc hr6 kbTc passL (pv 10) (pk_cons (pv 9) pk_nil)) pa_nil))) (pa_cons (pe_op op_rep (pe_lst (pa_cons (pe_call GU hr4 (by rfl) gU FU.kp bU .nil pass0 (pa_cons (pv 6) (pa_cons (pv 9) pa_nil))) pa_nil)) pe_int) pa_nil))))) pss_never pss_nil)
        (pss_cons (ps_set (i := 11) scLaw.nd rfl (.inr rfl) (pe_call GO hr2 (by rfl) gO FO.kp bO .nil pass0 (pa_cons (pv 1) (pa_cons (pe_op op_cat (pe_lc (own := [("_law_letter", 12)]) (g := gName 12) rfl scLaw.nd (pi_str (pe_call0 GA hr1 (by rfl) gA FA.kp bA .nil pass0)) (blkOk_by (own := [("_law_letter", 12)]) (N := ["_law_script", "_law_bag_here", "_law_turn", "_law_raw_here", "_law_size_here", "_law_made", "_law_strings_in", "_law_step", "_law_texts", "_law_text_here", "_law_paper", "_law_strange", "_law_letter"]) (sc := defScope sLaw) (by decide +kernel)) (fun _ _ _ _ _ => pg_name (i := 12) scLaw.nd rfl (Or.inl rfl)) (fun _ _ _ _ _ => pts_one (pt_cmp (pc_dnotin (hu_of hr) (pv 12) (show PE _ _ (tOp (rIxT K) (tVar 3) (tC (V.int 1))) from (pe_ix ix_tup (pv 3) pe_int (fun _ _ => rfl)))))) (fun _ _ _ _ _ => (pv 12))) (pe_lst (pa_cons pe_str pa_nil))) pa_nil))))
        (pss_one (ps_if (pt_cmpR (op_neD hr.units) (LamX.pe_lamcall (k := 6) (T := [(PT, lamName)]) (TT := TTried K CT CM) (by rfl) gX kX lX cX bX scTried rfl (.inl rfl) (tried_gives (k := 6) gCT gCM lF cF bF gF kF hr9) TB rfl (List.mem_singleton.mpr rfl) (fun p hp _ => by rw [List.mem_singleton.mp hp]; rfl) hr8 (show LamX.LamS (defScope sLaw) _ from LamX.lamS_by (by decide +kernel)) rfl (fun _ _ _ _ _ => rfl)
          (fun A' outer' s' H' E' f' c' room => (pe_inst cTc GTc room bTc (passes_call (takes_of rfl rfl rfl rfl) (fun _ _ _ _ h => h)) (pv 10) (pa_cons (pe_op op_add_str (pv 9) (pv 11)) pa_nil)))) (pe_tup (pa_cons pe_str (pa_cons (pe_callB call_len_str (by rfl) ml (by decide +kernel) (pa_cons (pe_call GY hr1 (by rfl) gY FY.kp bY .nil pass0 (pa_cons (pv 9) pa_nil)) pa_nil)) pa_nil))) (nomark _)) pss_never pss_nil))))))
        (pss_cons (ps_set (i := 8) scLaw.nd rfl (.inl rfl) (pe_op op_cat (pe_callTy (call_listS rfl) (by rfl) mli boot_list (pa_cons (pe_call0 GA hr1 (by rfl) gA FA.kp bA .nil pass0) pa_nil)) (pe_lst (pa_cons pe_str (pa_cons pe_str (pa_cons pe_str (pa_cons (pe_join pe_str (pe_slice sl_list (pe_callB (call_sortedD rfl) (by rfl) mso (by decide +kernel) (pa_cons (pe_ix ix_tup (pv 3) pe_int (fun _ _ => rfl)) pa_nil)) po_none (po_some pe_int))) pa_nil)))))))
        (pss_cons (ps_if (pt_not (pt_val (pe_call GE hr2 (by rfl) gE FE.kp bE .nil pass0 (pa_cons (pe_lc (own := [("_law_text_here", 9)]) (g := gName 9) (tt := tYes) rfl scLaw.nd (pi_list (pv 8)) (blkOk_by (own := [("_law_text_here", 9)]) (N := ["_law_script", "_law_bag_here", "_law_turn", "_law_raw_here", "_law_size_here", "_law_made", "_law_strings_in", "_law_step", "_law_texts", "_law_text_here", "_law_paper", "_law_strange", "_law_letter"]) (sc := defScope sLaw) (by decide +kernel)) (fun _ _ _ _ _ => pg_name (i := 9) scLaw.nd rfl (Or.inl rfl)) (fun _ _ _ _ _ => pts_nil) (fun _ _ _ _ _ => (pe_cmpR (op_has aHas iHas GHas hr1 bHas) (pv 9) (pv 5) (by rfl)))) (pa_cons (pe_lc (own := [("_law_text_here", 9)]) (g := gName 9) (tt := tYes) rfl scLaw.nd (pi_list (pv 8)) (blkOk_by (own := [("_law_text_here", 9)]) (N := ["_law_script", "_law_bag_here", "_law_turn", "_law_raw_here", "_law_size_here", "_law_made", "_law_strings_in", "_law_step", "_law_texts", "_law_text_here", "_law_paper", "_law_strange", "_law_letter"]) (sc := defScope sLaw) (by decide +kernel)) (fun _ _ _ _ _ => pg_name (i := 9) scLaw.nd rfl (Or.inl rfl)) (fun _ _ _ _ _ => pts_nil) (fun _ _ _ _ _ => (pe_cmpR (show OpR _ _ (rIn K false) from op_in_seq) (pv 9) (pe_callTy (call_listD rfl) (by rfl) mli boot_list (pa_cons (show PE _ _ (tOp (rIxT K) (tVar 3) (tC (V.int 1))) from (pe_ix ix_tup (pv 3) pe_int (fun _ _ => rfl))) pa_nil)) (by rfl)))) pa_nil))))) pss_never pss_nil)
        (pss_cons (ps_expr (pe_dclear (pv 6)))
        (pss_one (ps_if (pt_cmpR op_ne (pe_callB call_lenD (by rfl) ml (by decide +kernel) (pa_cons (pe_meth0 (pv 10) ZT.cl mTr GTr hr1 bTr .nil pass0) pa_nil)) (pe_callB call_lenD (by rfl) ml (by decide +kernel) (pa_cons (pe_ix ix_tup (pv 3) pe_int (fun _ _ => rfl)) pa_nil)) (nomark _)) pss_never pss_nil)))))))))))
      (pss_one (ps_ret (pe_and (pe_cmpR (op_hasNo aHas iHas GHas hr1 bHas) pe_str (pe_stat (pe_glob (v := .ref C) (by rfl) TT0.web rfl) TT0.read cE GEm hr5 bEm pass0) (by rfl)) (pe_and (pe_cmpR (op_has aHas iHas GHas hr1 bHas) pe_str (pe_cmeth (pe_glob (v := .ref C) (by rfl) TT0.web rfl) TT0.read cC RC hr5 pass0 (pa_cons pe_int pa_nil)) (by rfl)) (pe_one (pe_cmpR op_eq (pe_inst cTc GTc hr6 bTc passL (pe_make MT GTi hr3 (by rfl) gTC bTi .nil pass0 (pa_cons (pe_stat (pe_glob (v := .ref C) (by rfl) TT0.web rfl) TT0.read cE GEm hr5 bEm pass0) (pa_cons pe_dnewK pa_nil))) (pa_cons pe_str pa_nil)) pe_str (nomark _))))))))), ?_⟩
    refine ⟨_, rfl, a, ns, rfl, sa, fun Hb b l sb nb nl Bb => ?_⟩
    have tabB : Tabs [(PT, lamName)] Hb := tabs_same (tabs_first tab0) sb
    refine ⟨5, rfl, by decide, by decide, for_range (lo := 0) (n := 5) (fun i σ H' => ∃ y2 y3 y4 y5 y6 y7 y8 y9 y10 y11 y12 : Option V, σ = [some (.ref a), some (.ref b), y2, y3, y4, y5, y6, y7, y8, y9, y10, y11, y12] ∧ Bag H' b l ∧ Tabs [(PT, lamName)] H')
      ⟨none, none, none, none, none, none, none, none, none, none, none, rfl, Bb, tabB⟩ ?_ ?_⟩
    · rintro i σ H1 hi ⟨y2, y3, y4, y5, y6, y7, y8, y9, y10, y11, y12, rfl, B1, T1⟩
      -- raw, size
      refine ⟨_, rfl, b, l, 6, 8, rfl, B1, by decide, by decide, by decide, by decide, fun H2 rw ms es k2 B2 rawA few8 => ?_⟩
      refine ⟨_, rfl, b, l, 5, rfl, B2, by decide, by decide, fun H3 nn k3 B3 n0 n1 => ?_⟩
      obtain ⟨n, rfl⟩ : ∃ n : Nat, nn = (n : Nat) := ⟨nn.toNat, by omega⟩
      refine ⟨by show 2 ≤ sizeLine; decide, fun tt ntt => ?_⟩
      have raw3 : RawG H3 rw ms es := rawA.gen.keep B2 k3
      have raw4 : RawG (upd H3 tt (.tup [.ref rw, .int (n : Nat)])) rw ms es := raw3.same (same_upd ntt)
      have K4 : Kp b H1 (upd H3 tt (.tup [.ref rw, .int (n : Nat)])) := (k2.trans k3).trans (Kp.new ntt)
      have B4 : Bag (upd H3 tt (.tup [.ref rw, .int (n : Nat)])) b l := B3.new ntt
      refine ⟨tt, _, rfl, SqT.of upd_same, rfl, _, _, rfl, _, _, rfl, rfl, ?_⟩
      generalize upd H3 tt (.tup [.ref rw, .int (n : Nat)]) = H4 at K4 B4 raw4 ⊢
      have few : es.length ≤ 8 := by omega
      -- the web
      refine ⟨_, rfl, rw, ms, es, rfl, raw4, fun H5 w ms' es' s5 web5 mk5 => ?_⟩
      have B5 := B4.same s5
      have K5 : Kp b H1 H5 := K4.trans (Kp.of_same s5)
      obtain ⟨dm, de, hrw, hdm, hde, mok, eok, less⟩ := raw4.same s5
      have pl : (es'.map (·.letter)).Perm (es.map (·.letter)) := by
        have q := mk5.2.map (fun t : Nat × Int × Int => t.1)
        rw [List.map_map, List.map_map] at q
        exact q
      have ndE : (es.map (·.letter)).Nodup := eok.1
      have abcE : ∀ c ∈ es.map (·.letter), c ∈ alpha := by
        intro c hc
        obtain ⟨e, he, rfl⟩ := List.mem_map.mp hc
        exact eok.2.2.1 e he
      have len8 : (es.map (·.letter)).length ≤ 8 := by rw [List.length_map]; exact few
      -- the strings
      refine ⟨_, rfl, rw, _, 1, .ref de, rfl, rfl, .inl (.inl hrw), rfl, de, _, (es.map (·.letter)).map (fun c => txt [c]), rfl, .inl hde, keys_ends es, by rw [List.length_map]; omega, fun ys p py rise np => ?_⟩
      obtain ⟨LS, pm, rfl⟩ := perm_lift (fun c : Nat => txt [c]) ys (es.map (·.letter)) py
      have LSn : LS.Nodup := pm.nodup_iff.mpr ndE
      have LSa : ∀ c ∈ LS, c ∈ alpha := fun c hc => abcE c (pm.mem_iff.mp hc)
      have LSl : LS.length ≤ 8 := by rw [pm.length_eq]; exact len8
      have K6 : Kp b H1 (upd H5 p (.lst ((LS.map fun c => txt [c]).map V.str))) := K5.trans (Kp.new np)
      have B6 : Bag (upd H5 p (.lst ((LS.map fun c => txt [c]).map V.str))) b l := B5.new np
      have s6 : Same H5 (upd H5 p (.lst ((LS.map fun c => txt [c]).map V.str))) := same_upd np
      have hq6 : (upd H5 p (.lst ((LS.map fun c => txt [c]).map V.str))) p = some (.lst (LS.map sig)) := by
        rw [upd_same, List.map_map]
        rfl
      have npb : p ≠ b := B5.nb np
      have hp6 := hq6
      generalize upd H5 p (.lst ((LS.map fun c => txt [c]).map V.str)) = H6 at K6 B6 s6 hq6 hp6 ⊢
      refine ⟨p, rfl, ⟨_, SqL.of hq6⟩, fun D nD => ?_⟩
      have nDb : D ≠ b := B6.nb nD
      refine lc_list (K := K) (a := p) (xs := LS.map sig) (fun i J => Kp b H6 J ∧ Bag J b l ∧ ∃ rz : List (Addr × Nat × List Nat), RowsAt J D rz ∧ rz.map (·.2.1) = LS.take i ∧ ∀ r ∈ rz, Sn n r.2.2) ⟨Kp.new nD, B6.new nD, [], rowsAt_nil, rfl, fun r hr' => by cases hr'⟩ (fun i J _ hv => SqL.of (hv.1 _ _ npb hq6)) ?_ ?_
      · rintro i v J hv ⟨kJ, BJ, rz, hz, er, sn⟩
        rw [List.getElem?_map] at hv
        cases ek : LS[i]? with
        | none => rw [ek] at hv; cases hv
        | some c =>
          rw [ek] at hv
          cases hv
          refine ⟨rfl, ?_⟩
          refine ⟨_, rfl, _, rfl, _, rfl, b, l, n, rfl, BJ, by omega, fun J2 x kJ2 BJ2 sx => ?_⟩
          refine ⟨by show 2 ≤ sizeLine; decide, fun T nT => ?_⟩
          have hz2 := rowsAt_keep hz nDb BJ.hbl kJ2
          have nTD : D ≠ T := ne_of_none hz2.1 nT
          refine ⟨_, by rw [upd_ne nTD]; exact hz2.1, ?_, ?_, ?_, rz ++ [(T, c, x)], rowsAt_add hz2 nT, ?_, ?_⟩
          · have l2 : rz.length ≤ LS.length := by rw [← List.length_map (f := (·.2.1)), er, List.length_take]; omega
            rw [List.length_map]
            exact small1000 (by omega)
          · exact ((kJ.trans kJ2).trans (Kp.new nT)).put nD
          · exact (BJ2.new nT).put nDb (B6.nl nD)
          · rw [List.map_append, er, List.take_succ, ek]
            rfl
          · intro r hr'
            rcases List.mem_append.mp hr' with hr' | hr'
            · exact sn r hr'
            · rw [List.mem_singleton.mp hr']
              exact sx
      rintro J ⟨kJ, BJ, rz, hz, er, sn⟩
      have ll : (LS.map sig).length = LS.length := List.length_map ..
      rw [ll, List.take_length] at er
      have pairs := rowsAt_pairs (K := K) rz hz.2
      have hl : J D = some (.lst ((rz.map (fun a : Addr × Nat × List Nat => a.1)).map V.ref)) := by rw [hz.1, List.map_map]; rfl
      refine ⟨D, rz.map (fun a : Addr × Nat × List Nat => a.1), rowsK (rz.map (fun a : Addr × Nat × List Nat => a.2)), rfl, SqL.of hl, pairs, fun d nd => ?_⟩
      have keysE : (rz.map (fun a : Addr × Nat × List Nat => a.2)).map (·.1) = LS := by rw [List.map_map]; exact er
      have ndr : ((rz.map (fun a : Addr × Nat × List Nat => a.2)).map (·.1)).Nodup := by rw [keysE]; exact LSn
      rw [rowsK_merge ndr]
      have K7 : Kp b H6 (upd J d (.dK (rowsK (rz.map (fun a : Addr × Nat × List Nat => a.2))))) := kJ.trans (Kp.new nd)
      have B7 : Bag (upd J d (.dK (rowsK (rz.map (fun a : Addr × Nat × List Nat => a.2))))) b l := BJ.new nd
      have t7 : TblL (upd J d (.dK (rowsK (rz.map (fun a : Addr × Nat × List Nat => a.2))))) d n (rz.map (fun a : Addr × Nat × List Nat => a.2)) := by
        refine ⟨⟨upd_same, ?_, ?_, by omega⟩, ndr, ?_⟩
        · rw [List.length_map, ← List.length_map (f := (·.2.1)), er]; omega
        · intro r hr'
          obtain ⟨z, hz', rfl⟩ := List.mem_map.mp hr'
          exact sn z hz'
        · intro r hr'
          exact LSa _ (by rw [← keysE]; exact List.mem_map.mpr ⟨r, hr', rfl⟩)
      obtain ⟨ub, hb6⟩ := B6.hbl
      have ndde : de ≠ d := by
        have q : J de = some (.dK (endsK es)) := kJ _ _ (ne_of (s6 _ _ hde) hb6 (fun z => by cases z)) (s6 _ _ hde)
        exact ne_of_none q nd
      generalize upd J d (.dK (rowsK (rz.map (fun a : Addr × Nat × List Nat => a.2)))) = H7 at K7 B7 t7 ⊢
      generalize rz.map (fun a : Addr × Nat × List Nat => a.2) = rows at t7 keysE ⊢
      have hrw7 : H7 rw = some (.tup [.ref dm, .ref de]) := K7 _ _ (ne_of (s6 _ _ hrw) hb6 (fun z => by cases z)) (s6 _ _ hrw)
      have hde7 : H7 de = some (.dK (endsK es)) := K7 _ _ (ne_of (s6 _ _ hde) hb6 (fun z => by cases z)) (s6 _ _ hde)
      have web7 : WebAt C H7 w ms' es' := webAt_keep (web5.same s6) hb6 K7
      have K17 : Kp b H1 H7 := K6.trans K7
      -- the certificate
      refine ⟨_, rfl, _, rfl, fun px pdx npx npdx nepx => ?_⟩
      have s8 : Same H7 (upd (upd H7 pdx (.own px)) px (.ins CTC pdx [])) := (same_upd npdx).trans (same_upd (by rw [upd_ne nepx.symm]; exact npx))
      refine ⟨px, pdx, d, .ref w, _, rfl, upd_same, s8 _ _ t7.tbl.at_, fun H9 dc k9 ndc hdc hpx => ⟨rfl, ?_⟩⟩
      have s79 : Same H7 H9 := fun q o hq => k9 q o (ne_of_none hq npx) (s8 _ _ hq)
      have here9 : Here C CTC rw dm de w px pdx d dc es es' ms' n rows H9 :=
        ⟨s79 _ _ hrw7, s79 _ _ hde7, web7.same s79, hpx, t7.same s79, ⟨⟨hdc, t7.tbl.few, t7.tbl.all, t7.tbl.small⟩, t7.once, t7.abc⟩⟩
      have B9 : Bag H9 b l := B7.same s79
      have K9 : Kp b H1 H9 := K17.trans (Kp.of_same s79)
      have ndcd : dc ≠ d := fun z => by rw [z, s8 _ _ t7.tbl.at_] at ndc; cases ndc
      have npxd : px ≠ d := fun z => by rw [z, t7.tbl.at_] at npx; cases npx
      have T9 : Tabs [(PT, lamName)] H9 := tabs_keep T1 B1.hbl K9
      have keysR : (rows.map (·.1)).Perm (es.map (·.letter)) := by rw [keysE]; exact pm
      have fewR : rows.length ≤ 8 := by rw [← List.length_map (f := (·.1)), keysE]; exact LSl
      dsimp only [gName]
      simp only [List.set_cons_succ, List.set_cons_zero]
      refine ⟨3, rfl, by decide, by decide, for_range (lo := 0) (n := 3) (fun j σ H' => ∃ z7 z9 z11 : Option V, σ = [some (.ref a), some (.ref b), some (.int (0 + (i : Nat))), some (.ref rw), some (.int (n : Nat)), some (.ref w), some (.ref d), z7, y8, z9, some (.ref px), z11, y12] ∧ Bag H' b l ∧ Tabs [(PT, lamName)] H' ∧ Here C CTC rw dm de w px pdx d dc es es' ms' n rows H')
        ⟨y7, y9, y11, rfl, B9, T9, here9⟩ ?_ ?_⟩
      · rintro j σ J1 hj ⟨z7, z9, z11, rfl, BJ1, TJ1, h1⟩
        -- the word
        refine ⟨_, rfl, _, rfl, b, l, rw, dm, de, 16, endsK es, es.map (·.letter), rfl, BJ1, h1.raw, h1.ends, keys_ends es, by omega, abcE, by decide, fun J2 word kJ2 BJ2 wo => ?_⟩
        have h2 := h1.keep BJ1 kJ2
        have TJ2 := tabs_keep TJ1 BJ1.hbl kJ2
        obtain ⟨s1, c1, rfl, l1, m1⟩ := wo
        have m1R : ∀ c ∈ c1, c ∈ rows.map (·.1) := fun c hc => keysR.mem_iff.mpr (m1 c hc)
        have lt1 := abc_lt h2.tab.abc m1R
        have e1 : lettersL (wd s1 c1) = c1 := letters_wd lt1
        have w1l : (wd s1 c1).length ≤ 17 := by rw [wd_len]; cases s1 <;> simp <;> omega
        have noBad : ∀ {cs : List Nat}, goodW rows cs → ∀ (i c : Nat), cs[i]? = some c → rows.lookup c = none → False := by
          intro cs g i c hc hn
          obtain ⟨x, hx⟩ := g c (List.mem_of_getElem? hc)
          rw [hn] at hx
          cases hx
        have g1 : goodW rows (lettersL (wd s1 c1)) := by rw [e1]; exact good_of m1R
        dsimp only [gName]
        simp only [List.set_cons_succ, List.set_cons_zero]
        -- asked twice
        refine ⟨_, rfl, px, pdx, _, rfl, _, rfl, h2.paper, px, pdx, dc, .ref w, _, rfl, h2.paper, dc, n, rows, wd s1 c1, rfl, h2.tab2.tbl, by omega, by rw [e1]; omega, fun _ J3 sJ3 => ?_, fun i c hc hn _ _ _ _ _ _ => noBad g1 i c hc hn⟩
        have h3 := h2.same sJ3
        refine ⟨_, rfl, px, pdx, _, rfl, _, rfl, h3.paper, px, pdx, dc, .ref w, _, rfl, h3.paper, dc, n, rows, wd s1 c1, rfl, h3.tab2.tbl, by omega, by rw [e1]; omega, fun _ J4 sJ4 => ?_, fun i c hc hn _ _ _ _ _ _ => noBad g1 i c hc hn⟩
        have h4 := h3.same sJ4
        refine ⟨by show 2 ≤ sizeLine; decide, fun fo nfo => ?_⟩
        have s5 : Same J2 (upd J4 fo (.lst [tv (valL n rows (wd s1 c1)), tv (valL n rows (wd s1 c1))])) := (sJ3.trans sJ4).trans (same_upd nfo)
        have hfo : (upd J4 fo (.lst [tv (valL n rows (wd s1 c1)), tv (valL n rows (wd s1 c1))])) fo = some (.lst [tv (valL n rows (wd s1 c1)), tv (valL n rows (wd s1 c1))]) := upd_same
        generalize upd J4 fo (.lst [tv (valL n rows (wd s1 c1)), tv (valL n rows (wd s1 c1))]) = J5 at s5 hfo ⊢
        have h5 := h2.same s5
        -- as due
        refine ⟨_, rfl, _, rfl, d, n, rows, wd s1 c1, rfl, h5.tab, by omega, by rw [e1]; omega, g1, fun J6 sJ6 => ?_⟩
        refine ⟨by show 1 ≤ sizeLine; decide, fun du ndu => ?_⟩
        refine ⟨du, 2, _, rfl, rfl, upd_same, by decide, by decide, by show 1 * 2 ≤ sizeLine; decide, fun dd ndd => ?_⟩
        have s7 : Same J5 (upd (upd J6 du (.lst [tv (valL n rows (wd s1 c1))])) dd (.lst (List.replicate (2 : Int).toNat [tv (valL n rows (wd s1 c1))]).flatten)) := (sJ6.trans (same_upd ndu)).trans (same_upd ndd)
        have hdd : (upd (upd J6 du (.lst [tv (valL n rows (wd s1 c1))])) dd (.lst (List.replicate (2 : Int).toNat [tv (valL n rows (wd s1 c1))]).flatten)) dd = some (.lst ([valL n rows (wd s1 c1), valL n rows (wd s1 c1)].map tv)) := upd_same
        generalize upd (upd J6 du (.lst [tv (valL n rows (wd s1 c1))])) dd (.lst (List.replicate (2 : Int).toNat [tv (valL n rows (wd s1 c1))]).flatten) = J7 at s7 hdd ⊢
        refine ⟨_, _, rfl, eqv_tvs (ns := [valL n rows (wd s1 c1), valL n rows (wd s1 c1)]) (s7 _ _ hfo) hdd (by show 2 ≤ 10000; decide), fun J8 sJ8 => ⟨true, rfl, iteF ?_⟩⟩
        have h8 := (h5.same s7).same sJ8
        have s28 : Same J2 J8 := s5.trans (s7.trans sJ8)
        have BJ8 := BJ2.same s28
        have TJ8 := tabs_same TJ2 s28
        -- a strange letter
        refine ⟨_, rfl, rfl, _, rfl, fun D2 nD2 => ?_⟩
        rw [txt_alpha]
        have hsz : (txt alpha).cps.size = alpha.length := txt_len _
        refine lc_it (walk_str (z := txt alpha)) (fun i J => Same J8 J ∧ ∃ cs : List Nat, J D2 = some (.lst (cs.map sig)) ∧ cs.length ≤ i ∧ ∀ c ∈ cs, rows.lookup c = none ∧ c ≠ 45) ⟨same_upd nD2, [], upd_same, Nat.le_refl _, fun c hc => by cases hc⟩ (fun _ _ _ _ => trivial) ?_ ?_
        · rintro i v J J' hi ⟨sJ, cs, hD, hl, hn⟩ ⟨rfl, c, hc, rfl⟩
          rw [hsz] at hi
          have hi2 : i < 24 := hi
          have hca : c ≠ 45 := by
            have m : c ∈ (txt alpha).cps.toList := Array.mem_toList_iff.mpr (Array.mem_of_getElem? hc)
            rw [txt_cps] at m
            have all : ∀ c ∈ alpha, c ≠ 45 := by decide
            exact all c m
          refine ⟨rfl, ?_⟩
          refine ⟨_, rfl, _, rfl, rw, _, 1, .ref de, rfl, rfl, .inl (.inl (sJ _ _ h8.raw)), rfl, de, _, rfl, DGet.k (k := Sum.inr (txt [c])) (sJ _ _ h8.ends), _, rfl, ?_⟩
          have known : (valV (endsK es) (Sum.inr (txt [c]))).isSome = decide (c ∈ es.map (·.letter)) := by
            have once : (es.map fun e => txt [e.letter]).Nodup := by
              refine List.pairwise_map.mpr ((List.pairwise_map.mp ndE).imp fun {p q} ne same => ne (List.head_eq_of_cons_eq (txt_inj same)))
            rw [edge_has once]
            refine decide_eq_decide.mpr ⟨fun h => ?_, fun h => ?_⟩
            · obtain ⟨e, he, q⟩ := List.mem_map.mp h
              exact List.mem_map.mpr ⟨e, he, List.head_eq_of_cons_eq (txt_inj q)⟩
            · obtain ⟨e, he, q⟩ := List.mem_map.mp h
              exact List.mem_map.mpr ⟨e, he, by rw [← q]⟩
          rw [known]
          by_cases hin : c ∈ es.map (·.letter)
          · rw [decide_eq_true hin]
            exact iteF ⟨sJ, cs, hD, by omega, hn⟩
          · rw [decide_eq_false hin]
            have miss : rows.lookup c = none := by
              cases el : rows.lookup c with
              | none => rfl
              | some x => exact absurd (keysR.mem_iff.mp (List.mem_map.mpr ⟨_, lookup_mem el, rfl⟩)) hin
            refine iteT ⟨_, rfl, _, hD, by rw [List.length_map]; exact small1000 (by omega), same_put sJ nD2, cs ++ [c], ?_, by rw [List.length_append]; show _ + 1 ≤ _; omega, ?_⟩
            · rw [upd_same, List.map_append]
              rfl
            · intro c' hc'
              rcases List.mem_append.mp hc' with hc' | hc'
              · exact hn c' hc'
              · rw [List.mem_singleton.mp hc']; exact ⟨miss, hca⟩
        rintro J9 ⟨sJ9, cs, hD, hl, hn⟩
        rw [hsz] at hl
        have hl24 : cs.length ≤ 24 := hl
        refine ⟨by show 1 ≤ sizeLine; decide, fun l2' nl2 => ?_⟩
        refine ⟨D2, l2', _, _, rfl, rfl, (same_upd nl2) _ _ hD, upd_same, ?_, fun q2 nq2 => ?_⟩
        · rw [List.length_map]
          exact Nat.le_of_lt (small1000 (by show _ + 1 ≤ 1000; omega))
        have notAbc : ∀ c, c ∉ alpha → rows.lookup c = none := by
          intro c hc
          cases el : rows.lookup c with
          | none => rfl
          | some x => exact absurd (h8.tab.abc _ (lookup_mem el)) hc
        have s10 : Same J8 (upd (upd J9 l2' (.lst [.str (Str.ofString "?")])) q2 (.lst (cs.map sig ++ [.str (Str.ofString "?")]))) := (sJ9.trans (same_upd nl2)).trans (same_upd nq2)
        have nq2b : q2 ≠ b := (BJ8.same (sJ9.trans (same_upd nl2))).nb nq2
        refine ⟨b, l, .ref q2, _, rfl, BJ8.same s10, .inl ⟨q2, rfl, nq2b, SqL.of upd_same⟩, ?_, ?_, fun J11 x k11 B11 hx => ?_⟩
        · rw [List.length_append]
          show 0 < _ + 1
          omega
        · rw [List.length_append, List.length_map]
          show _ + 1 < _
          omega
        have h11 := (h8.same s10).keep (BJ8.same s10) k11
        have T11 := tabs_keep (tabs_same TJ8 s10) (BJ8.same s10).hbl k11
        obtain ⟨c0, rfl, hn0, c45⟩ : ∃ c0, x = sig c0 ∧ rows.lookup c0 = none ∧ c0 ≠ 45 := by
          rcases List.mem_append.mp hx with hx | hx
          · obtain ⟨c, hc, rfl⟩ := List.mem_map.mp hx
            exact ⟨c, rfl, hn c hc⟩
          · rw [List.mem_singleton.mp hx]
            exact ⟨63, congrArg V.str (by decide +kernel : Str.ofString "?" = txt [63]), notAbc 63 (by decide), by decide⟩
        dsimp only [gName]
        simp only [List.set_cons_succ, List.set_cons_zero]
        refine ⟨T11, fun H30 ext T30 => ?_⟩
        have bag30 : Bag H30 b l := by
          obtain ⟨xs, i1, n1, s1', q1, q2, rest⟩ := B11
          exact ⟨xs, i1, n1, s1', ext _ _ q1 (fun ps e => by cases e), ext _ _ q2 (fun ps e => by cases e), rest⟩
        have h30 : Here C CTC rw dm de w px pdx d dc es es' ms' n rows H30 := by
          refine ⟨ext _ _ h11.raw (fun ps e => by cases e), ext _ _ h11.ends (fun ps e => by cases e), ?_, ext _ _ h11.paper (fun ps e => by cases e), ⟨⟨ext _ _ h11.tab.tbl.at_ (fun ps e => by cases e), h11.tab.tbl.few, h11.tab.tbl.all, h11.tab.tbl.small⟩, h11.tab.once, h11.tab.abc⟩, ⟨⟨ext _ _ h11.tab2.tbl.at_ (fun ps e => by cases e), h11.tab2.tbl.few, h11.tab2.tbl.all, h11.tab2.tbl.small⟩, h11.tab2.once, h11.tab2.abc⟩⟩
          obtain ⟨dx, a1, a2, a3, g1, g2, g3, g4, g5⟩ := h11.web
          exact ⟨dx, a1, a2, a3, ext _ _ g1 (fun ps e => by cases e), ext _ _ g2 (fun ps e => by cases e), ext _ _ g3 (fun ps e => by cases e), ext _ _ g4 (fun ps e => by cases e), ⟨g5.rise, g5.node, g5.mark, g5.risE, g5.name, fun e he => ext _ _ (g5.pair e he) (fun ps e => by cases e), g5.less, g5.ends⟩⟩
        refine ⟨_, rfl, px, pdx, certF (.ref w) dc, rfl, _, rfl, _, rfl, _, _, rfl, rfl, ?_, ?_⟩
        · have one : (⟨#[c0]⟩ : Str).length = 1 := rfl
          rw [txt_len]
          first
          | (rw [one]; exact Nat.le_of_lt (small1000 (by omega)))
          | (rw [txt_len]; exact Nat.le_of_lt (small1000 (by show _ + 1 ≤ 1000; omega)))
        have eb : txt (wd s1 c1) ++ (⟨#[c0]⟩ : Str) = txt (wd s1 (c1 ++ [c0])) := by
          rw [show wd s1 (c1 ++ [c0]) = wd s1 c1 ++ [c0] by cases s1 <;> rfl]
          exact txt_app (wd s1 c1) [c0]
        have eb' : txt (wd s1 c1) ++ txt [c0] = txt (wd s1 (c1 ++ [c0])) := eb
        have lt2 : Lt (c1 ++ [c0]) := fun c h => by
          rcases List.mem_append.mp h with h | h
          · exact lt1 c h
          · rw [List.mem_singleton.mp h]; exact c45
        have e2 : lettersL (wd s1 (c1 ++ [c0])) = c1 ++ [c0] := letters_wd lt2
        refine ⟨h30.paper, px, pdx, dc, .ref w, _, rfl, h30.paper, dc, n, rows, wd s1 (c1 ++ [c0]), by first | exact congrArg (fun z => [V.ref dc, V.str z]) eb | exact congrArg (fun z => [V.ref dc, V.str z]) eb', h30.tab2.tbl, ?_, ?_, fun g => ?_, fun i' c' hc hn' hg H31 dd s31 ndd hdd => ?_⟩
        · rw [wd_len, List.length_append]
          cases s1 <;> simp <;> omega
        · rw [e2, List.length_append]
          show _ + 1 ≤ 19
          omega
        · obtain ⟨x, hx⟩ := g c0 (by rw [e2]; simp)
          rw [hn0] at hx
          cases hx
        have ik : i' = c1.length := by
          rw [e2] at hc hg
          rcases Nat.lt_trichotomy i' c1.length with lt | eq | gt
          · rw [List.getElem?_append_left lt] at hc
            obtain ⟨x, hx⟩ := good_of m1R c' (List.mem_of_getElem? hc)
            rw [hn'] at hx
            cases hx
          · exact eq
          · obtain ⟨hlt, _⟩ := List.getElem?_eq_some_iff.mp hc
            rw [List.length_append] at hlt
            have : i' < c1.length + 1 := hlt
            omega
        subst ik
        have ea : attrOf "invalidword" = some "position" := by decide +kernel
        refine ⟨true, x1, fun z => Bool.noConfusion z, "invalidword", .int (c1.length : Nat), ⟨CI, dd, _, rfl, xf, nc, rfl, hdd, ?_, ?_⟩, fun H32 t32 s32 nt32 => ?_⟩
        · have q1 : (("code" : Str) == "position") = false := by decide +kernel
          have q2 : (("code" : Str) == "code") = true := by decide +kernel
          simp only [List.lookup_cons, q1, q2]
        · rw [ea]
          have q3 : (("position" : Str) == "position") = true := by decide +kernel
          exact ⟨hpos, by simp only [List.lookup_cons, q3]⟩
        have bag32 : Bag H32 b l := (bag30.same s31).same s32
        have so : PyData.strOk (Str.ofString "invalidword") = true := by decide +kernel
        have shp : SeqAt.shaped (.tuple [.str (Str.ofString "invalidword"), .int ((c1.length : Nat) : Int)]) = true := by
          simp [SeqAt.shaped, PyData.canLay0, PyData.canLayAll0, PyData.depth, PyData.depthAll, so]
        refine ⟨_, rfl, wd s1 c1, rfl, by omega, _, rfl, ?_, ?_⟩
        · rw [e1, txt_len]
          exact Nat.le_of_lt (small1000 (by omega))
        rw [e1, txt_len]
        refine ⟨by show 2 ≤ sizeLine; decide, fun t33 nt33 => ?_⟩
        refine ⟨_, _, .tup (SqT.of ((same_upd nt33) _ _ upd_same)) (.cons (.str _) (.cons (.int _) .nil)), .tup (SqT.of upd_same) (.cons (.str _) (.cons (.int _) .nil)), shp, shp, _, rfl, ?_⟩
        refine ifF ?_ ?_
        · rw [SeqAt.eqv_refl _ (SeqAt.canLay_of_shaped shp)]
          rfl
        exact ⟨_, _, _, rfl, (bag32.new nt32).new nt33, tabs_same (tabs_same (tabs_same T30 s31) s32) ((same_upd nt32).trans (same_upd nt33)), ((h30.same s31).same s32).same ((same_upd nt32).trans (same_upd nt33))⟩
      rintro σ J1 ⟨z7, z9, z11, rfl, BJ1, TJ1, h1⟩
      -- the texts that are asked
      refine ⟨rfl, _, rfl, by rw [txt_alpha, txt_len]; decide, fun p1 np1 => ?_⟩
      rw [txt_alpha, txt_cps]
      have sA : Same J1 (upd J1 p1 (.lst (alpha.map sig))) := same_upd np1
      have hp1 : (upd J1 p1 (.lst (alpha.map sig))) p1 = some (.lst (alpha.map sig)) := upd_same
      generalize upd J1 p1 (.lst (alpha.map sig)) = J2 at sA hp1 ⊢
      have h2 := h1.same sA
      refine ⟨⟨_, rfl⟩, _, rfl, rw, _, 1, .ref de, rfl, rfl, .inl (.inl h2.raw), rfl, de, _, (es.map (·.letter)).map (fun c => txt [c]), rfl, .inl h2.ends, keys_ends es, by rw [List.length_map]; omega, fun ys p2 py _ np2 => ?_⟩
      obtain ⟨L2s, pm2, rfl⟩ := perm_lift (fun c : Nat => txt [c]) ys (es.map (·.letter)) py
      refine ⟨_, rfl, p2, _, rfl, SqL.of upd_same, fun p3 np3 => ?_⟩
      have ecut : cutV ((L2s.map fun c => txt [c]).map V.str) none (some 2) = ((L2s.take 2).map fun c => txt [c]).map V.str := by
        show cutV _ none (some ((2 : Nat) : Int)) = _
        rw [cutV_take, List.map_take, List.map_take]
      rw [ecut]
      refine ⟨Str.ofString "", p3, (L2s.take 2).map (fun c => txt [c]), rfl, rfl, .inl (SqL.of upd_same), ?_, ?_⟩
      · rw [len_ones, txt_empty, txt_len, List.length_map, List.length_take]
        simp
        omega
      generalize Txt.join (Str.ofString "") ((L2s.take 2).map fun c => txt [c]) = z4
      have sB2 : Same J2 (upd (upd J2 p2 (.lst ((L2s.map fun c => txt [c]).map V.str))) p3 (.lst (((L2s.take 2).map fun c => txt [c]).map V.str))) := (same_upd np2).trans (same_upd np3)
      generalize upd (upd J2 p2 (.lst ((L2s.map fun c => txt [c]).map V.str))) p3 (.lst (((L2s.take 2).map fun c => txt [c]).map V.str)) = J3 at sB2 ⊢
      refine ⟨by show 4 ≤ sizeLine; decide, fun p4 np4 => ?_⟩
      refine ⟨p1, p4, _, _, rfl, rfl, (same_upd np4) _ _ (sB2 _ _ hp1), upd_same, by show 24 + 4 ≤ sizeLine; decide, fun tx ntx => ?_⟩
      obtain ⟨TX, lTX, hTX⟩ : ∃ TX : List Str, TX.length = 28 ∧ alpha.map sig ++ [.str (Str.ofString ""), .str (Str.ofString "z"), .str (Str.ofString "ab"), .str z4] = TX.map V.str :=
        ⟨alpha.map (fun c => txt [c]) ++ [Str.ofString "", Str.ofString "z", Str.ofString "ab", z4], rfl, rfl⟩
      have sC : Same J2 (upd (upd J3 p4 (.lst [.str (Str.ofString ""), .str (Str.ofString "z"), .str (Str.ofString "ab"), .str z4])) tx (.lst (alpha.map sig ++ [.str (Str.ofString ""), .str (Str.ofString "z"), .str (Str.ofString "ab"), .str z4]))) := sB2.trans ((same_upd np4).trans (same_upd ntx))
      have htx : (upd (upd J3 p4 (.lst [.str (Str.ofString ""), .str (Str.ofString "z"), .str (Str.ofString "ab"), .str z4])) tx (.lst (alpha.map sig ++ [.str (Str.ofString ""), .str (Str.ofString "z"), .str (Str.ofString "ab"), .str z4]))) tx = some (.lst (TX.map V.str)) := by rw [upd_same, hTX]
      generalize upd (upd J3 p4 (.lst [.str (Str.ofString ""), .str (Str.ofString "z"), .str (Str.ofString "ab"), .str z4])) tx (.lst (alpha.map sig ++ [.str (Str.ofString ""), .str (Str.ofString "z"), .str (Str.ofString "ab"), .str z4])) = J5 at sC htx ⊢
      have h5 := h2.same sC
      have B5x := (BJ1.same sA).same sC
      have T5x := tabs_same (tabs_same TJ1 sA) sC
      dsimp only [gName]
      simp only [List.set_cons_succ, List.set_cons_zero]
      obtain ⟨dxw, a1w, a2w, a3w, hw5, _⟩ := h5.web
      -- in the web
      refine ⟨_, rfl, tx, rfl, ⟨_, SqL.of htx⟩, fun D nD => ?_⟩
      refine lc_list (K := K) (a := tx) (xs := TX.map V.str) (fun i J => Same J5 J ∧ J D = some (.lst (((TX.take i).map fun z => inV (.str z) ((endsK es).map fun kv => L2.kV kv.1)).map V.bl))) ⟨same_upd nD, upd_same⟩ (fun i J _ hv => SqL.of (hv.1 _ _ htx)) ?_ ?_
      · rintro k v J hv ⟨sJ, hD⟩
        rw [List.getElem?_map] at hv
        cases ek : TX[k]? with
        | none => rw [ek] at hv; cases hv
        | some z =>
          rw [ek] at hv
          cases hv
          refine ⟨rfl, ?_⟩
          refine ⟨_, rfl, _, rfl, w, dxw, _, rfl, sJ _ _ hw5, w, z, ms', es', rfl, (h5.same sJ).web, _, rfl, ?_⟩
          rw [has_perm pl z]
          have lk : k < TX.length := (List.getElem?_eq_some_iff.mp ek).1
          refine ⟨_, hD, ?_, same_put sJ nD, ?_⟩
          · rw [List.length_map, List.length_map, List.length_take]
            exact small1000 (by omega)
          · rw [upd_same, List.take_succ, ek, List.map_append, List.map_append]
            rfl
      rintro J6 ⟨sJ6, hD6⟩
      rw [show (TX.map V.str).length = TX.length from List.length_map .., List.take_length] at hD6
      have h6 := h5.same sJ6
      have htx6 := sJ6 _ _ htx
      -- in the list of the dict
      refine ⟨_, rfl, tx, rfl, ⟨_, SqL.of htx6⟩, fun D2 nD2 => ?_⟩
      refine lc_list (K := K) (a := tx) (xs := TX.map V.str) (fun i J => Same J6 J ∧ J D2 = some (.lst (((TX.take i).map fun z => inV (.str z) ((endsK es).map fun kv => L2.kV kv.1)).map V.bl))) ⟨same_upd nD2, upd_same⟩ (fun i J _ hv => SqL.of (hv.1 _ _ htx6)) ?_ ?_
      · rintro k v J hv ⟨sJ, hD⟩
        rw [List.getElem?_map] at hv
        cases ek : TX[k]? with
        | none => rw [ek] at hv; cases hv
        | some z =>
          rw [ek] at hv
          cases hv
          refine ⟨rfl, ?_⟩
          have hJ := h6.same sJ
          refine ⟨_, rfl, _, rfl, rw, _, 1, .ref de, rfl, rfl, .inl (.inl hJ.raw), rfl, de, _, rfl, .inl hJ.ends, fun l1 nl1 => ?_⟩
          have nD2l : D2 ≠ l1 := ne_of_none hD nl1
          have flat : ((endsK es).map fun kv => L2.kV kv.1).all flatV = true := by
            rw [List.all_eq_true]
            intro x hx
            obtain ⟨kv, _, rfl⟩ := List.mem_map.mp hx
            cases kv.1 <;> rfl
          refine ⟨l1, _, rfl, .inl (SqL.of upd_same), rfl, flat, ?_⟩
          have lk : k < TX.length := (List.getElem?_eq_some_iff.mp ek).1
          refine ⟨_, by rw [upd_ne nD2l]; exact hD, ?_, same_put (sJ.trans (same_upd nl1)) nD2, ?_⟩
          · rw [List.length_map, List.length_map, List.length_take]
            exact small1000 (by omega)
          · rw [upd_same, List.take_succ, ek, List.map_append, List.map_append]
            rfl
      rintro J7 ⟨sJ7, hD7⟩
      rw [show (TX.map V.str).length = TX.length from List.length_map .., List.take_length] at hD7
      refine ⟨_, _, rfl, eqv_bls (sJ7 _ _ hD6) hD7 (by rw [List.length_map, lTX]; decide), fun J8 sJ8 => ⟨true, rfl, iteF ?_⟩⟩
      have h8 := (h6.same sJ7).same sJ8
      have B8 := ((B5x.same sJ6).same sJ7).same sJ8
      have T8 := tabs_same (tabs_same (tabs_same T5x sJ6) sJ7) sJ8
      -- the table is cleared
      refine ⟨_, rfl, .inr (.inr (.inl ⟨rfl, .inl ⟨_, h8.tab.tbl.at_⟩⟩)), d, _, rfl, rfl, h8.tab.tbl.at_, ?_⟩
      obtain ⟨xsB, i1, n1, s1', g1, g2, rest⟩ := B8
      have B8 : Bag J8 b l := ⟨xsB, i1, n1, s1', g1, g2, rest⟩
      have ndb : d ≠ b := ne_of h8.tab.tbl.at_ g1 (fun z => by cases z)
      have ndl : d ≠ l := ne_of h8.tab.tbl.at_ g2 (fun z => by cases z)
      have B9x : Bag (upd J8 d (.dK [])) b l := B8.put ndb ndl
      have T9x : Tabs [(PT, lamName)] (upd J8 d (.dK [])) := tabs_put T8 h8.tab.tbl.at_
      have hpx9 : (upd J8 d (.dK [])) px = some (.ins CTC pdx (certF (.ref w) dc)) := by rw [upd_ne npxd]; exact h8.paper
      have hdc9 : (upd J8 d (.dK [])) dc = some (.dK (rowsK rows)) := by rw [upd_ne ndcd]; exact h8.tab2.tbl.at_
      have hrw9 : (upd J8 d (.dK [])) rw = some (.tup [.ref dm, .ref de]) := by rw [upd_ne (ne_of h8.raw h8.tab.tbl.at_ (fun z => by cases z))]; exact h8.raw
      have hde9 : (upd J8 d (.dK [])) de = some (.dK (endsK es)) := by rw [upd_ne ndde]; exact h8.ends
      generalize upd J8 d (.dK []) = J9 at B9x T9x hpx9 hdc9 hrw9 hde9 ⊢
      refine ⟨_, rfl, px, pdx, _, rfl, hpx9, certF_table _ _, px, pdx, dc, .ref w, _, rfl, hpx9, hdc9, fun p np => ?_⟩
      refine ⟨p, _, rfl, upd_same, ?_⟩
      have s9 : Same J9 (upd J9 p (.dK (rowsK rows))) := same_upd np
      refine ⟨_, rfl, rw, _, 1, .ref de, rfl, rfl, .inl (.inl (s9 _ _ hrw9)), rfl, de, _, rfl, s9 _ _ hde9, rfl, _, rfl, ?_⟩
      have lens : (rowsK rows).length = (endsK es).length := by
        have q := keysR.length_eq
        rw [List.length_map, List.length_map] at q
        show (rows.map _).length = (es.map _).length
        rw [List.length_map, List.length_map, q]
      refine ifF (by rw [lens]; simp) ?_
      exact ⟨_, _, _, _, _, _, _, _, _, _, _, rfl, B9x.same s9, tabs_same T9x s9⟩
    · rintro σ H1 ⟨y2, y3, y4, y5, y6, y7, y8, y9, y10, y11, y12, rfl, B1, T1⟩
      -- nothing in the web without edges
      refine ⟨rfl, rfl, fun H2 x s2 web2 => ?_⟩
      obtain ⟨dxw, a1w, a2w, a3w, hw2, rest2⟩ := web2
      have web2 : WebAt C H2 x [] [] := ⟨dxw, a1w, a2w, a3w, hw2, rest2⟩
      refine ⟨x, dxw, _, rfl, hw2, x, _, [], [], rfl, web2, _, rfl, true, rfl, iteT ?_⟩
      -- three nodes, each two joined
      refine ⟨rfl, odC, rfl, qC _, fun H3 x3 ms3 es3 s3 n3 web3 pm3 => ?_⟩
      obtain ⟨dx3, a13, a23, a33, hw3, rest3⟩ := web3
      have web3 : WebAt C H3 x3 ms3 es3 := ⟨dx3, a13, a23, a33, hw3, rest3⟩
      have mb : Str.ofString "b" ∈ es3.map fun e => txt [e.letter] := by
        have q := pm3.map (fun t : Nat × Int × Int => t.1)
        have m : (98 : Nat) ∈ (es3.map tri).map (fun t : Nat × Int × Int => t.1) := q.mem_iff.mpr (by decide)
        rw [List.map_map] at m
        obtain ⟨e, he, h98⟩ := List.mem_map.mp m
        have h98 : e.letter = 98 := h98
        exact List.mem_map.mpr ⟨e, he, by rw [h98]; decide +kernel⟩
      refine ⟨x3, dx3, _, rfl, hw3, x3, _, ms3, es3, rfl, web3, _, rfl, true, congrArg V.bl (decide_eq_true mb), iteT ?_⟩
      -- a table of nothing
      refine ⟨rfl, rfl, fun H4 x4 s4 web4 => ?_⟩
      intro d4 nd4 px pdx npx npdx nepx
      have s8 : Same (upd H4 d4 (.dK [])) (upd (upd (upd H4 d4 (.dK [])) pdx (.own px)) px (.ins CTC pdx [])) := (same_upd npdx).trans (same_upd (by rw [upd_ne nepx.symm]; exact npx))
      refine ⟨px, pdx, d4, .ref x4, _, rfl, upd_same, s8 _ _ upd_same, fun H6 dc k6 ndc hdc hpx => ⟨rfl, ?_⟩⟩
      refine ⟨px, pdx, certF (.ref x4) dc, rfl, hpx, px, pdx, dc, .ref x4, _, rfl, hpx, dc, 0, [], [45], by rw [txt_minus]; rfl, ⟨hdc, by decide, fun r hr' => (by cases hr'), by decide⟩, by decide, by decide, fun _ H7 s7 => ?_, fun i' c' hc => by cases hc⟩
      have v2 : valL 0 [] [45] = [45] := by decide
      refine ⟨rfl, ?_⟩
      rw [v2]
      have same : (tv [45] : V) = .str (Str.ofString "-") := by rw [txt_minus]; rfl
      rw [decide_eq_true same]
      exact hand H7
end


end T78

namespace T78
open PySem PySem.Spec PyProof.Rows L2 Tm
open LamX L2H ClX NdefX
set_option maxHeartbeats 4000000 in
theorem all_mk {l : PySem.W.OpenLaw} {w : World} {K : PySem.W.Frag} {h : Heap} {mg : Str → Option Value} {fa CIw CT CM C pd c fL fSg fSd fIs fCs fTw fMul fId fZo fV fIn fIm fIa fJ fCm fCe fMu fNa fB fP fO fM fE fFi fTr fA fR fW fY fLs fTx fTb fTi fTA fSt fZ fUv flaw fXIw finit fhas : Addr} (PT : Addr) {nmIw qIw NIw bsIw bmIw snIw subIw abIw colIw ddIw k0Iw k1Iw k2Iw k3Iw k5Iw} (X : K.In h) (G : h.Ns mainGlobals mg) (hfa : mg "law" = some (.ref fa))
    (empty : h.get? PT = some { cls := .none, data := .fields #[] })
    {odL odSg odSd odIs odCs odTw odMul odId odZo odV odIn odIm odIa odJ odCm odCe odMu odNa odB odP odO odM odE odFi odTr odA odR odW odY odLs odTx odTb odTi odTA odSt odZ odUv odlaw odXIw odinit odhas anL anSg anSd anIs anCs anTw anMul anId anZo anV anIn anIm anIa anJ anCm anCe anMu anNa anB anP anO anM anE anFi anTr anA anR anW anY anLs anTx anTb anTi anTA anSt anZ anUv anlaw anXIw aninit anhas : Option Addr} {slL slSg slSd slIs slCs slTw slMul slId slZo slV slIn slIm slIa slJ slCm slCe slMu slNa slB slP slO slM slE slFi slTr slA slR slW slY slLs slTx slTb slTi slTA slSt slZ slUv sllaw slXIw slinit slhas : Array (Option Value)} {ocL ocSg ocSd ocIs ocCs ocTw ocMul ocId ocZo ocV ocIn ocIm ocIa ocJ ocCm ocCe ocMu ocNa ocB ocP ocO ocM ocE ocFi ocTr ocA ocR ocW ocY ocLs ocTx ocTb ocTi ocTA ocSt ocZ ocUv oclaw ocXIw ocinit ochas kVL kVSg kVSd kVIs kVCs kVTw kVMul kVId kVZo kVV kVIn kVIm kVIa kVJ kVCm kVCe kVMu kVNa kVB kVP kVO kVM kVE kVFi kVTr kVA kVR kVW kVY kVLs kVTx kVTb kVTi kVTA kVSt kVZ kVUv kVlaw kVXIw kVinit kVhas dcL dcSg dcSd dcIs dcCs dcTw dcMul dcId dcZo dcV dcIn dcIm dcIa dcJ dcCm dcCe dcMu dcNa dcB dcP dcO dcM dcE dcFi dcTr dcA dcR dcW dcY dcLs dcTx dcTb dcTi dcTA dcSt dcZ dcUv dclaw dcXIw dcinit dchas pmL pmSg pmSd pmIs pmCs pmTw pmMul pmId pmZo pmV pmIn pmIm pmIa pmJ pmCm pmCe pmMu pmNa pmB pmP pmO pmM pmE pmFi pmTr pmA pmR pmW pmY pmLs pmTx pmTb pmTi pmTA pmSt pmZ pmUv pmlaw pmXIw pminit pmhas cdL cdSg cdSd cdIs cdCs cdTw cdMul cdId cdZo cdV cdIn cdIm cdIa cdJ cdCm cdCe cdMu cdNa cdB cdP cdO cdM cdE cdFi cdTr cdA cdR cdW cdY cdLs cdTx cdTb cdTi cdTA cdSt cdZ cdUv cdXIw cdinit cdhas ctL ctSg ctSd ctIs ctCs ctTw ctMul ctId ctZo ctV ctIn ctIm ctIa ctJ ctCm ctCe ctMu ctNa ctB ctP ctO ctM ctE ctFi ctTr ctA ctR ctW ctY ctLs ctTx ctTb ctTi ctTA ctSt ctZ ctUv ctlaw ctXIw ctinit cthas : Value} {es : Array DictEntry} {dn : Nat} {ta t0 t1 t2 t3 t4 t5 t6 t7 t8 t9 t10 t11 t12 t13 t14 t15 : Tok} {tN tA : Tok} {pCc fCc DCc oCc : Addr} {odCc anCc tdCc : Option Addr} {slCc tsCc : Array (Option Value)} {ocCc dcCc pmCc cdCc ctCc : Value} {rsCc : List Value} {tnCc : Nat} {tE tM : Tok}          {pem fem : Addr} {odem anem : Option Addr} {slem : Array (Option Value)} {ocem dcem pmem cdem ctem kVem : Value} {rsem : List Value}     {CTC cda ccx : Addr} {cs1 ce1 : Value} {cs2 ce2 : Option Addr} {vsC : Array Value} {cs4 ce4 : Array (Option Value)} {fileT : Str} {tfT : Tok}          {fXi : Addr} {odXi anXi : Option Addr} {slXi : Array (Option Value)} {ocXi kVXi dcXi pmXi ctXi : Value}           {fXc : Addr} {odXc anXc : Option Addr} {slXc : Array (Option Value)} {ocXc kVXc dcXc pmXc cdXc ctXc : Value}       {fXa : Addr} {odXa anXa : Option Addr} {slXa : Array (Option Value)} {ocXa kVXa dcXa pmXa cdXa ctXa : Value}      {fXr : Addr} {odXr anXr : Option Addr} {slXr : Array (Option Value)} {ocXr kVXr dcXr pmXr cdXr ctXr : Value}    
    (aIw : PySem.W.nsIn K mainGlobals "InvalidWord" = some (some (.ref CIw)))
    (aCT : PySem.W.nsIn K mainGlobals "ThreadError" = some (some (.ref CT)))
    (aCM : PySem.W.nsIn K mainGlobals "Missing" = some (some (.ref CM)))
    (aC0 : PySem.W.nsIn K mainGlobals "Web" = some (some (.ref C)))
    (aL : PySem.W.nsIn K mainGlobals "letters_of" = some (some (.ref fL)))
    (lL : K.lookup fL = some ⟨ocL, odL, .func (PySem.W.fnOf "letters_of" "letters_of" (defArgs sLettersOf) (defBody sLettersOf) (defScope sLettersOf) .none kVL dcL pmL anL cdL ctL), slL⟩)
    (cL : PySem.W.codeIn K cdL "letters_of" = true)
    (kL : PySem.W.keepIn K (.ref fL) = true)
    (aSg : PySem.W.nsIn K mainGlobals "sign_of" = some (some (.ref fSg)))
    (lSg : K.lookup fSg = some ⟨ocSg, odSg, .func (PySem.W.fnOf "sign_of" "sign_of" (defArgs sSignOf) (defBody sSignOf) (defScope sSignOf) .none kVSg dcSg pmSg anSg cdSg ctSg), slSg⟩)
    (cSg : PySem.W.codeIn K cdSg "sign_of" = true)
    (kSg : PySem.W.keepIn K (.ref fSg) = true)
    (aSd : PySem.W.nsIn K mainGlobals "signed" = some (some (.ref fSd)))
    (lSd : K.lookup fSd = some ⟨ocSd, odSd, .func (PySem.W.fnOf "signed" "signed" (defArgs sSigned) (defBody sSigned) (defScope sSigned) .none kVSd dcSd pmSd anSd cdSd ctSd), slSd⟩)
    (cSd : PySem.W.codeIn K cdSd "signed" = true)
    (kSd : PySem.W.keepIn K (.ref fSd) = true)
    (aIs : PySem.W.nsIn K mainGlobals "is_string" = some (some (.ref fIs)))
    (lIs : K.lookup fIs = some ⟨ocIs, odIs, .func (PySem.W.fnOf "is_string" "is_string" (defArgs sIsStr) (defBody sIsStr) (defScope sIsStr) .none kVIs dcIs pmIs anIs cdIs ctIs), slIs⟩)
    (cIs : PySem.W.codeIn K cdIs "is_string" = true)
    (kIs : PySem.W.keepIn K (.ref fIs) = true)
    (aCs : PySem.W.nsIn K mainGlobals "check_string" = some (some (.ref fCs)))
    (lCs : K.lookup fCs = some ⟨ocCs, odCs, .func (PySem.W.fnOf "check_string" "check_string" (defArgs sChkS) (defBody sChkS) (defScope sChkS) .none kVCs dcCs pmCs anCs cdCs ctCs), slCs⟩)
    (cCs : PySem.W.codeIn K cdCs "check_string" = true)
    (kCs : PySem.W.keepIn K (.ref fCs) = true)
    (aTw : PySem.W.nsIn K mainGlobals "product_of_two" = some (some (.ref fTw)))
    (lTw : K.lookup fTw = some ⟨ocTw, odTw, .func (PySem.W.fnOf "product_of_two" "product_of_two" (defArgs sTwo) (defBody sTwo) (defScope sTwo) .none kVTw dcTw pmTw anTw cdTw ctTw), slTw⟩)
    (cTw : PySem.W.codeIn K cdTw "product_of_two" = true)
    (kTw : PySem.W.keepIn K (.ref fTw) = true)
    (aMul : PySem.W.nsIn K mainGlobals "multiply" = some (some (.ref fMul)))
    (lMul : K.lookup fMul = some ⟨ocMul, odMul, .func (PySem.W.fnOf "multiply" "multiply" (defArgs sMult) (defBody sMult) (defScope sMult) .none kVMul dcMul pmMul anMul cdMul ctMul), slMul⟩)
    (cMul : PySem.W.codeIn K cdMul "multiply" = true)
    (kMul : PySem.W.keepIn K (.ref fMul) = true)
    (aId : PySem.W.nsIn K mainGlobals "identity" = some (some (.ref fId)))
    (lId : K.lookup fId = some ⟨ocId, odId, .func (PySem.W.fnOf "identity" "identity" (defArgs sIden) (defBody sIden) (defScope sIden) .none kVId dcId pmId anId cdId ctId), slId⟩)
    (cId : PySem.W.codeIn K cdId "identity" = true)
    (kId : PySem.W.keepIn K (.ref fId) = true)
    (aZo : PySem.W.nsIn K mainGlobals "size_of" = some (some (.ref fZo)))
    (lZo : K.lookup fZo = some ⟨ocZo, odZo, .func (PySem.W.fnOf "size_of" "size_of" (defArgs sSizeOf) (defBody sSizeOf) (defScope sSizeOf) .none kVZo dcZo pmZo anZo cdZo ctZo), slZo⟩)
    (cZo : PySem.W.codeIn K cdZo "size_of" = true)
    (kZo : PySem.W.keepIn K (.ref fZo) = true)
    (aV : PySem.W.nsIn K mainGlobals "value_of" = some (some (.ref fV)))
    (lV : K.lookup fV = some ⟨ocV, odV, .func (PySem.W.fnOf "value_of" "value_of" (defArgs sValueOf) (defBody sValueOf) (defScope sValueOf) .none kVV dcV pmV anV cdV ctV), slV⟩)
    (cV : PySem.W.codeIn K cdV "value_of" = true)
    (kV : PySem.W.keepIn K (.ref fV) = true)
    (aIn : PySem.W.nsIn K mainGlobals "is_node" = some (some (.ref fIn)))
    (lIn : K.lookup fIn = some ⟨ocIn, odIn, .func (PySem.W.fnOf "is_node" "is_node" (defArgs sIsNode) (defBody sIsNode) (defScope sIsNode) .none kVIn dcIn pmIn anIn cdIn ctIn), slIn⟩)
    (cIn : PySem.W.codeIn K cdIn "is_node" = true)
    (kIn : PySem.W.keepIn K (.ref fIn) = true)
    (aIm : PySem.W.nsIn K mainGlobals "is_mark" = some (some (.ref fIm)))
    (lIm : K.lookup fIm = some ⟨ocIm, odIm, .func (PySem.W.fnOf "is_mark" "is_mark" (defArgs sIsMark) (defBody sIsMark) (defScope sIsMark) .none kVIm dcIm pmIm anIm cdIm ctIm), slIm⟩)
    (cIm : PySem.W.codeIn K cdIm "is_mark" = true)
    (kIm : PySem.W.keepIn K (.ref fIm) = true)
    (aIa : PySem.W.nsIn K mainGlobals "is_name" = some (some (.ref fIa)))
    (lIa : K.lookup fIa = some ⟨ocIa, odIa, .func (PySem.W.fnOf "is_name" "is_name" (defArgs sIsName) (defBody sIsName) (defScope sIsName) .none kVIa dcIa pmIa anIa cdIa ctIa), slIa⟩)
    (cIa : PySem.W.codeIn K cdIa "is_name" = true)
    (kIa : PySem.W.keepIn K (.ref fIa) = true)
    (aJ : PySem.W.nsIn K mainGlobals "joins_two" = some (some (.ref fJ)))
    (lJ : K.lookup fJ = some ⟨ocJ, odJ, .func (PySem.W.fnOf "joins_two" "joins_two" (defArgs sJoins) (defBody sJoins) (defScope sJoins) .none kVJ dcJ pmJ anJ cdJ ctJ), slJ⟩)
    (cJ : PySem.W.codeIn K cdJ "joins_two" = true)
    (kJ : PySem.W.keepIn K (.ref fJ) = true)
    (aCm : PySem.W.nsIn K mainGlobals "check_marks" = some (some (.ref fCm)))
    (lCm : K.lookup fCm = some ⟨ocCm, odCm, .func (PySem.W.fnOf "check_marks" "check_marks" (defArgs sChkM) (defBody sChkM) (defScope sChkM) .none kVCm dcCm pmCm anCm cdCm ctCm), slCm⟩)
    (cCm : PySem.W.codeIn K cdCm "check_marks" = true)
    (kCm : PySem.W.keepIn K (.ref fCm) = true)
    (aCe : PySem.W.nsIn K mainGlobals "check_edges" = some (some (.ref fCe)))
    (lCe : K.lookup fCe = some ⟨ocCe, odCe, .func (PySem.W.fnOf "check_edges" "check_edges" (defArgs sChkE) (defBody sChkE) (defScope sChkE) .none kVCe dcCe pmCe anCe cdCe ctCe), slCe⟩)
    (cCe : PySem.W.codeIn K cdCe "check_edges" = true)
    (kCe : PySem.W.keepIn K (.ref fCe) = true)
    (aMu : PySem.W.nsIn K mainGlobals "marks_up_to" = some (some (.ref fMu)))
    (lMu : K.lookup fMu = some ⟨ocMu, odMu, .func (PySem.W.fnOf "marks_up_to" "marks_up_to" (defArgs sMut) (defBody sMut) (defScope sMut) .none kVMu dcMu pmMu anMu cdMu ctMu), slMu⟩)
    (cMu : PySem.W.codeIn K cdMu "marks_up_to" = true)
    (kMu : PySem.W.keepIn K (.ref fMu) = true)
    (aNa : PySem.W.nsIn K mainGlobals "named" = some (some (.ref fNa)))
    (lNa : K.lookup fNa = some ⟨ocNa, odNa, .func (PySem.W.fnOf "named" "named" (defArgs sNamed) (defBody sNamed) (defScope sNamed) .none kVNa dcNa pmNa anNa cdNa ctNa), slNa⟩)
    (cNa : PySem.W.codeIn K cdNa "named" = true)
    (kNa : PySem.W.keepIn K (.ref fNa) = true)
    (aB : PySem.W.nsIn K mainGlobals "_law_bag" = some (some (.ref fB)))
    (lB : K.lookup fB = some ⟨ocB, odB, .func (PySem.W.fnOf "_law_bag" "_law_bag" (defArgs sBag) (defBody sBag) (defScope sBag) .none kVB dcB pmB anB cdB ctB), slB⟩)
    (cB : PySem.W.codeIn K cdB "_law_bag" = true)
    (kB : PySem.W.keepIn K (.ref fB) = true)
    (aP : PySem.W.nsIn K mainGlobals "_law_pull" = some (some (.ref fP)))
    (lP : K.lookup fP = some ⟨ocP, odP, .func (PySem.W.fnOf "_law_pull" "_law_pull" (defArgs sPull) (defBody sPull) (defScope sPull) .none kVP dcP pmP anP cdP ctP), slP⟩)
    (cP : PySem.W.codeIn K cdP "_law_pull" = true)
    (kP : PySem.W.keepIn K (.ref fP) = true)
    (aO : PySem.W.nsIn K mainGlobals "_law_of" = some (some (.ref fO)))
    (lO : K.lookup fO = some ⟨ocO, odO, .func (PySem.W.fnOf "_law_of" "_law_of" (defArgs sOf) (defBody sOf) (defScope sOf) .none kVO dcO pmO anO cdO ctO), slO⟩)
    (cO : PySem.W.codeIn K cdO "_law_of" = true)
    (kO : PySem.W.keepIn K (.ref fO) = true)
    (aM : PySem.W.nsIn K mainGlobals "_law_mixed" = some (some (.ref fM)))
    (lM : K.lookup fM = some ⟨ocM, odM, .func (PySem.W.fnOf "_law_mixed" "_law_mixed" (defArgs sMixed) (defBody sMixed) (defScope sMixed) .none kVM dcM pmM anM cdM ctM), slM⟩)
    (cM : PySem.W.codeIn K cdM "_law_mixed" = true)
    (kM : PySem.W.keepIn K (.ref fM) = true)
    (aE : PySem.W.nsIn K mainGlobals "_law_same" = some (some (.ref fE)))
    (lE : K.lookup fE = some ⟨ocE, odE, .func (PySem.W.fnOf "_law_same" "_law_same" (defArgs sSame) (defBody sSame) (defScope sSame) .none kVE dcE pmE anE cdE ctE), slE⟩)
    (cE : PySem.W.codeIn K cdE "_law_same" = true)
    (kE : PySem.W.keepIn K (.ref fE) = true)
    (aFi : PySem.W.nsIn K mainGlobals "_law_field" = some (some (.ref fFi)))
    (lFi : K.lookup fFi = some ⟨ocFi, odFi, .func (PySem.W.fnOf "_law_field" "_law_field" (defArgs sField) (defBody sField) (defScope sField) .none kVFi dcFi pmFi anFi cdFi ctFi), slFi⟩)
    (cFi : PySem.W.codeIn K cdFi "_law_field" = true)
    (kFi : PySem.W.keepIn K (.ref fFi) = true)
    (aTr : PySem.W.nsIn K mainGlobals "_law_tried" = some (some (.ref fTr)))
    (lTr : K.lookup fTr = some ⟨ocTr, odTr, .func (PySem.W.fnOf "_law_tried" "_law_tried" (defArgs sTried) (defBody sTried) (defScope sTried) .none kVTr dcTr pmTr anTr cdTr ctTr), slTr⟩)
    (cTr : PySem.W.codeIn K cdTr "_law_tried" = true)
    (kTr : PySem.W.keepIn K (.ref fTr) = true)
    (aA : PySem.W.nsIn K mainGlobals "_law_letters" = some (some (.ref fA)))
    (lA : K.lookup fA = some ⟨ocA, odA, .func (PySem.W.fnOf "_law_letters" "_law_letters" (defArgs sLets) (defBody sLets) (defScope sLets) .none kVA dcA pmA anA cdA ctA), slA⟩)
    (cA : PySem.W.codeIn K cdA "_law_letters" = true)
    (kA : PySem.W.keepIn K (.ref fA) = true)
    (aR : PySem.W.nsIn K mainGlobals "_law_raw" = some (some (.ref fR)))
    (lR : K.lookup fR = some ⟨ocR, odR, .func (PySem.W.fnOf "_law_raw" "_law_raw" (defArgs sRaw) (defBody sRaw) (defScope sRaw) .none kVR dcR pmR anR cdR ctR), slR⟩)
    (cR : PySem.W.codeIn K cdR "_law_raw" = true)
    (kR : PySem.W.keepIn K (.ref fR) = true)
    (aW : PySem.W.nsIn K mainGlobals "_law_web" = some (some (.ref fW)))
    (lW : K.lookup fW = some ⟨ocW, odW, .func (PySem.W.fnOf "_law_web" "_law_web" (defArgs sLWeb) (defBody sLWeb) (defScope sLWeb) .none kVW dcW pmW anW cdW ctW), slW⟩)
    (cW : PySem.W.codeIn K cdW "_law_web" = true)
    (kW : PySem.W.keepIn K (.ref fW) = true)
    (aY : PySem.W.nsIn K mainGlobals "_law_body" = some (some (.ref fY)))
    (lY : K.lookup fY = some ⟨ocY, odY, .func (PySem.W.fnOf "_law_body" "_law_body" (defArgs sLBody) (defBody sLBody) (defScope sLBody) .none kVY dcY pmY anY cdY ctY), slY⟩)
    (cY : PySem.W.codeIn K cdY "_law_body" = true)
    (kY : PySem.W.keepIn K (.ref fY) = true)
    (aLs : PySem.W.nsIn K mainGlobals "_law_signed" = some (some (.ref fLs)))
    (lLs : K.lookup fLs = some ⟨ocLs, odLs, .func (PySem.W.fnOf "_law_signed" "_law_signed" (defArgs sLSigned) (defBody sLSigned) (defScope sLSigned) .none kVLs dcLs pmLs anLs cdLs ctLs), slLs⟩)
    (cLs : PySem.W.codeIn K cdLs "_law_signed" = true)
    (kLs : PySem.W.keepIn K (.ref fLs) = true)
    (aTx : PySem.W.nsIn K mainGlobals "_law_text" = some (some (.ref fTx)))
    (lTx : K.lookup fTx = some ⟨ocTx, odTx, .func (PySem.W.fnOf "_law_text" "_law_text" (defArgs sLText) (defBody sLText) (defScope sLText) .none kVTx dcTx pmTx anTx cdTx ctTx), slTx⟩)
    (cTx : PySem.W.codeIn K cdTx "_law_text" = true)
    (kTx : PySem.W.keepIn K (.ref fTx) = true)
    (aTb : PySem.W.nsIn K mainGlobals "_law_table_of_products" = some (some (.ref fTb)))
    (lTb : K.lookup fTb = some ⟨ocTb, odTb, .func (PySem.W.fnOf "_law_table_of_products" "_law_table_of_products" (defArgs sLTab) (defBody sLTab) (defScope sLTab) .none kVTb dcTb pmTb anTb cdTb ctTb), slTb⟩)
    (cTb : PySem.W.codeIn K cdTb "_law_table_of_products" = true)
    (kTb : PySem.W.keepIn K (.ref fTb) = true)
    (aTi : PySem.W.nsIn K mainGlobals "_law_times" = some (some (.ref fTi)))
    (lTi : K.lookup fTi = some ⟨ocTi, odTi, .func (PySem.W.fnOf "_law_times" "_law_times" (defArgs sLTimes) (defBody sLTimes) (defScope sLTimes) .none kVTi dcTi pmTi anTi cdTi ctTi), slTi⟩)
    (cTi : PySem.W.codeIn K cdTi "_law_times" = true)
    (kTi : PySem.W.keepIn K (.ref fTi) = true)
    (aTA : PySem.W.nsIn K mainGlobals "_law_times_all" = some (some (.ref fTA)))
    (lTA : K.lookup fTA = some ⟨ocTA, odTA, .func (PySem.W.fnOf "_law_times_all" "_law_times_all" (defArgs sLTAll) (defBody sLTAll) (defScope sLTAll) .none kVTA dcTA pmTA anTA cdTA ctTA), slTA⟩)
    (cTA : PySem.W.codeIn K cdTA "_law_times_all" = true)
    (kTA : PySem.W.keepIn K (.ref fTA) = true)
    (aSt : PySem.W.nsIn K mainGlobals "_law_string" = some (some (.ref fSt)))
    (lSt : K.lookup fSt = some ⟨ocSt, odSt, .func (PySem.W.fnOf "_law_string" "_law_string" (defArgs sLString) (defBody sLString) (defScope sLString) .none kVSt dcSt pmSt anSt cdSt ctSt), slSt⟩)
    (cSt : PySem.W.codeIn K cdSt "_law_string" = true)
    (kSt : PySem.W.keepIn K (.ref fSt) = true)
    (aZ : PySem.W.nsIn K mainGlobals "_law_size" = some (some (.ref fZ)))
    (lZ : K.lookup fZ = some ⟨ocZ, odZ, .func (PySem.W.fnOf "_law_size" "_law_size" (defArgs sLSize) (defBody sLSize) (defScope sLSize) .none kVZ dcZ pmZ anZ cdZ ctZ), slZ⟩)
    (cZ : PySem.W.codeIn K cdZ "_law_size" = true)
    (kZ : PySem.W.keepIn K (.ref fZ) = true)
    (aUv : PySem.W.nsIn K mainGlobals "_law_value" = some (some (.ref fUv)))
    (lUv : K.lookup fUv = some ⟨ocUv, odUv, .func (PySem.W.fnOf "_law_value" "_law_value" (defArgs sLValue) (defBody sLValue) (defScope sLValue) .none kVUv dcUv pmUv anUv cdUv ctUv), slUv⟩)
    (cUv : PySem.W.codeIn K cdUv "_law_value" = true)
    (kUv : PySem.W.keepIn K (.ref fUv) = true)
    (alaw : PySem.W.nsIn K mainGlobals "law" = some (some (.ref flaw)))
    (llaw : K.lookup flaw = some ⟨oclaw, odlaw, .func (PySem.W.fnOf "law" "law" (defArgs sLaw) (defBody sLaw) (defScope sLaw) .none kVlaw dclaw pmlaw anlaw (.ref c) ctlaw), sllaw⟩)
    (claw : PySem.W.codeIn K (.ref c) "law" = true)
    (klaw : PySem.W.keepIn K (.ref flaw) = true)
    (aXIw : PySem.W.findIn K (.ref CIw) "__init__" = some (some (.ref fXIw)))
    (lXIw : K.lookup fXIw = some ⟨ocXIw, odXIw, .func (PySem.W.fnOf "__init__" "InvalidWord.__init__" (defArgs sIW) (defBody sIW) (defScope sIW) .none kVXIw dcXIw pmXIw anXIw cdXIw ctXIw), slXIw⟩)
    (cXIw : PySem.W.codeIn K cdXIw "InvalidWord.__init__" = true)
    (kXIw : PySem.W.keepIn K (.ref fXIw) = true)
    (tXIw : PySem.W.typeIn K (.ref fXIw) = some (.type "function"))
    (saIw : PySem.W.findIn K (.ref CIw) "__setattr__" = some (some (.builtin "object.__setattr__")))
    (exCIw : PySem.W.subIn K (.ref CIw) (.type "BaseException") = some true)
    (tyCIw : PySem.W.typeIn K (.ref CIw) = some (.type "type"))
    (kCIw : PySem.W.keepIn K (.ref CIw) = true)
    (clsIw : K.lookup CIw = some (excClassObj nmIw qIw CIw NIw bsIw bmIw true snIw subIw abIw colIw ddIw k0Iw k1Iw k2Iw k3Iw k5Iw "ValueError.__new__"))
    (rvIw : PySem.HandSPX.refsVE bmIw = true)
    (ncIw : PySem.W.findIn K (.ref CIw) "code" = some none)
    (x1Iw : PySem.W.exmOne K (.ref CIw) (.ref CT) = some true)
    (xmIw : PySem.W.exmOne K (.ref CIw) (.ref CM) = some false)
    (xfIw : xfB K CIw = true)
    (n_positionIw : PySem.W.findIn K (.ref CIw) "position" = some none)
    (hcode : PySem.W.codeHdIn K c PT = true)
    (noP : K.lookup PT = none)
    (slt : PySem.W.nsIn K mainGlobals "STRING_LETTERS" = some (some (.str (Str.ofString "1XZW") ta)))
    (d1 : PySem.W.nsIn K mainGlobals "PRODUCTS" = some (some (.ref pd)))
    (d2 : K.lookup pd = some ⟨.type "dict", none, .dict es dn, #[]⟩)
    (d3 : PySem.W.KeysLit w.params es.toList)
    (q0 : PySem.W.nsIn K pd (Str.ofString "11") = some (some (.str (Str.ofString "1") t0)))
    (q1 : PySem.W.nsIn K pd (Str.ofString "1X") = some (some (.str (Str.ofString "X") t1)))
    (q2 : PySem.W.nsIn K pd (Str.ofString "1Z") = some (some (.str (Str.ofString "Z") t2)))
    (q3 : PySem.W.nsIn K pd (Str.ofString "1W") = some (some (.str (Str.ofString "W") t3)))
    (q4 : PySem.W.nsIn K pd (Str.ofString "X1") = some (some (.str (Str.ofString "X") t4)))
    (q5 : PySem.W.nsIn K pd (Str.ofString "XX") = some (some (.str (Str.ofString "1") t5)))
    (q6 : PySem.W.nsIn K pd (Str.ofString "XZ") = some (some (.str (Str.ofString "W") t6)))
    (q7 : PySem.W.nsIn K pd (Str.ofString "XW") = some (some (.str (Str.ofString "Z") t7)))
    (q8 : PySem.W.nsIn K pd (Str.ofString "Z1") = some (some (.str (Str.ofString "Z") t8)))
    (q9 : PySem.W.nsIn K pd (Str.ofString "ZX") = some (some (.str (Str.ofString "-W") t9)))
    (q10 : PySem.W.nsIn K pd (Str.ofString "ZZ") = some (some (.str (Str.ofString "1") t10)))
    (q11 : PySem.W.nsIn K pd (Str.ofString "ZW") = some (some (.str (Str.ofString "-X") t11)))
    (q12 : PySem.W.nsIn K pd (Str.ofString "W1") = some (some (.str (Str.ofString "W") t12)))
    (q13 : PySem.W.nsIn K pd (Str.ofString "WX") = some (some (.str (Str.ofString "-Z") t13)))
    (q14 : PySem.W.nsIn K pd (Str.ofString "WZ") = some (some (.str (Str.ofString "X") t14)))
    (q15 : PySem.W.nsIn K pd (Str.ofString "WW") = some (some (.str (Str.ofString "-1") t15)))
    (ainit : PySem.W.findIn K (.ref C) "__init__" = some (some (.ref finit)))
    (iinit : PySem.W.isFn K (.ref finit) = true)
    (linit : K.lookup finit = some ⟨ocinit, odinit, .func (PySem.W.fnOf "__init__" "Web.__init__" (defArgs sWInit) (defBody sWInit) (defScope sWInit) .none kVinit dcinit pminit aninit cdinit ctinit), slinit⟩)
    (cinit : PySem.W.codeIn K cdinit "Web.__init__" = true)
    (kinit : PySem.W.keepIn K (.ref finit) = true)
    (ahas : PySem.W.findIn K (.ref C) "__contains__" = some (some (.ref fhas)))
    (ihas : PySem.W.isFn K (.ref fhas) = true)
    (lhas : K.lookup fhas = some ⟨ochas, odhas, .func (PySem.W.fnOf "__contains__" "Web.__contains__" (defArgs sWHas) (defBody sWHas) (defScope sWHas) .none kVhas dchas pmhas anhas cdhas cthas), slhas⟩)
    (chas : PySem.W.codeIn K cdhas "Web.__contains__" = true)
    (khas : PySem.W.keepIn K (.ref fhas) = true)
    (pg : PySem.W.plainGet K C Str.empty = true)
    (hd : PySem.W.hasDictIn K C = true)
    (po : PySem.W.plainOver K C = true)
    (sa : PySem.W.findIn K (.ref C) "__setattr__" = some (some (.builtin "object.__setattr__")))
    (mk : PySem.W.makesIn K C = true)
    (kc : PySem.W.keepIn K (.ref C) = true)
    (nM : PySem.W.findIn K (.ref C) "marks" = some none)
    (nP : PySem.W.findIn K (.ref C) "pairs" = some none)
    (nS : PySem.W.findIn K (.ref C) "stars" = some none)
    (rd : PySem.W.readsIn K C (.type "type") = true)
    (ga : PySem.W.specialIn K (.ref C) "__getattribute__" = some (some (.builtin "type.__getattribute__")))
    (vN : PySem.W.findCls K (.ref C) (.type "type") "MAX_NODES" = some (.val (.int 12 tN)))
    (vA : PySem.W.nsIn K mainGlobals "EDGE_NAMES" = some (some (.str (Str.ofString "abcdefghijklmnopqrstuvwx") tA)))
    (aCc : PySem.W.findCls K (.ref C) (.type "type") "complete" = some (.get (.builtin "classmethod.__get__") (.ref pCc) .none (.ref C)))
    (rCc : PySem.W.recIn K pCc "classmethod" = some (.ref fCc :: rsCc))
    (iCc : PySem.W.fnIn K fCc = true)
    (lCc : K.lookup fCc = some ⟨ocCc, odCc, .func (PySem.W.fnOf "complete" "Web.complete" (defArgs sComp) (defBody sComp) (defScope sComp) .none (.ref DCc) dcCc pmCc anCc cdCc ctCc), slCc⟩)
    (cCc : PySem.W.codeIn K cdCc "Web.complete" = true)
    (kCc : PySem.W.keepIn K (.ref fCc) = true)
    (nCc : PySem.W.nsIn K DCc "odd" = some (some (.ref oCc)))
    (qCc : K.lookup oCc = some ⟨.type "tuple", tdCc, .seq #[] tnCc, tsCc⟩)
    (vE : PySem.W.findCls K (.ref C) (.type "type") "MAX_EDGES" = some (.val (.int 24 tE)))
    (vM : PySem.W.nsIn K mainGlobals "MAX_COMPLETE" = some (some (.int 7 tM)))
    (aem : PySem.W.findCls K (.ref C) (.type "type") "empty" = some (.get (.builtin "staticmethod.__get__") (.ref pem) .none (.ref C)))
    (rem : PySem.W.recIn K pem "staticmethod" = some (.ref fem :: rsem))
    (lem : K.lookup fem = some ⟨ocem, odem, .func (PySem.W.fnOf "empty" "Web.empty" (defArgs sEmpty) (defBody sEmpty) (defScope sEmpty) .none kVem dcem pmem anem cdem ctem), slem⟩)
    (cem : PySem.W.codeIn K cdem "Web.empty" = true)
    (kem : PySem.W.keepIn K (.ref fem) = true)
    (aTC : PySem.W.nsIn K mainGlobals "TableCertificate" = some (some (.ref CTC)))
    (pgT : PySem.W.plainGet K CTC Str.empty = true)
    (hdT : PySem.W.hasDictIn K CTC = true)
    (poT : PySem.W.plainOver K CTC = true)
    (saT : PySem.W.findIn K (.ref CTC) "__setattr__" = some (some (.builtin "object.__setattr__")))
    (mkT : PySem.W.makesIn K CTC = true)
    (kcT : PySem.W.keepIn K (.ref CTC) = true)
    (nST : PySem.W.findIn K (.ref CTC) "shown" = some none)
    (nRT : PySem.W.findIn K (.ref CTC) "rows" = some none)
    (icT : PySem.W.isClsIn K CTC = true)
    (aXi : PySem.W.findIn K (.ref CTC) "__init__" = some (some (.ref fXi)))
    (iXi : PySem.W.isFn K (.ref fXi) = true)
    (lXi : K.lookup fXi = some ⟨ocXi, odXi, .func (PySem.W.ksFn "__init__" "TableCertificate.__init__" (defArgs sTInit) (defBody sTInit) (defScope sTInit) .none kVXi dcXi pmXi anXi (.ref cda) ctXi ccx), slXi⟩)
    (cXi : PySem.W.codeIn K (.ref cda) "TableCertificate.__init__" = true)
    (kXi : PySem.W.keepIn K (.ref fXi) = true)
    (lcd : K.lookup cda = some ⟨cs1, cs2, .fields vsC, cs4⟩)
    (hvs : vsC[2]? = some (.str fileT tfT))
    (fl : ((l.prog.main.file : Str) == fileT) = true)
    (lce : K.lookup ccx = some ⟨ce1, ce2, .cell (some (.ref CTC)), ce4⟩)
    (sub : PySem.W.mroIn K CTC (.ref CTC) = some true)
    (anyC : PySem.W.nsIn K cStatics "thirdparty.any" = some none)
    (nxt : PySem.W.ks_superIn K CTC CTC "__init__" = some (some (.ref fXc)))
    (tyf : PySem.W.typeIn K (.ref fXc) = some (.type "function"))
    (fnf : PySem.W.fnIn K fXc = true)
    (lXc : K.lookup fXc = some ⟨ocXc, odXc, .func (PySem.W.fnOf "__init__" "Certificate.__init__" (defArgs sCInit) (defBody sCInit) (defScope sCInit) .none kVXc dcXc pmXc anXc cdXc ctXc), slXc⟩)
    (cXc : PySem.W.codeIn K cdXc "Certificate.__init__" = true)
    (kXc : PySem.W.keepIn K (.ref fXc) = true)
    (topS : (l.prog.main.scope.names.lookup ("super" : Str)).isSome = false)
    (aXa : PySem.W.findIn K (.ref CTC) "__call__" = some (some (.ref fXa)))
    (iXa : PySem.W.isFn K (.ref fXa) = true)
    (lXa : K.lookup fXa = some ⟨ocXa, odXa, .func (PySem.W.fnOf "__call__" "TableCertificate.__call__" (defArgs sTCall) (defBody sTCall) (defScope sTCall) .none kVXa dcXa pmXa anXa cdXa ctXa), slXa⟩)
    (cXa : PySem.W.codeIn K cdXa "TableCertificate.__call__" = true)
    (kXa : PySem.W.keepIn K (.ref fXa) = true)
    (fna : PySem.W.fnIn K fXa = true)
    (aXr : PySem.W.findIn K (.ref CTC) "table" = some (some (.ref fXr)))
    (iXr : PySem.W.isFn K (.ref fXr) = true)
    (lXr : K.lookup fXr = some ⟨ocXr, odXr, .func (PySem.W.fnOf "table" "TableCertificate.table" (defArgs sTRows) (defBody sTRows) (defScope sTRows) .none kVXr dcXr pmXr anXr cdXr ctXr), slXr⟩)
    (cXr : PySem.W.codeIn K cdXr "TableCertificate.table" = true)
    (kXr : PySem.W.keepIn K (.ref fXr) = true)
    (z_isinstance : PySem.W.nsIn K mainGlobals "isinstance" = some none)
    (z_dict : PySem.W.nsIn K mainGlobals "dict" = some none)
    (z_list : PySem.W.nsIn K mainGlobals "list" = some none)
    (z_tuple : PySem.W.nsIn K mainGlobals "tuple" = some none)
    (z_bool : PySem.W.nsIn K mainGlobals "bool" = some none)
    (z_int : PySem.W.nsIn K mainGlobals "int" = some none)
    (z_str : PySem.W.nsIn K mainGlobals "str" = some none)
    (z_len : PySem.W.nsIn K mainGlobals "len" = some none)
    (z_all : PySem.W.nsIn K mainGlobals "all" = some none)
    (z_zip : PySem.W.nsIn K mainGlobals "zip" = some none)
    (z_sorted : PySem.W.nsIn K mainGlobals "sorted" = some none)
    (z_range : PySem.W.nsIn K mainGlobals "range" = some none)
    (z_min : PySem.W.nsIn K mainGlobals "min" = some none)
    (z_max : PySem.W.nsIn K mainGlobals "max" = some none)
    (z_sum : PySem.W.nsIn K mainGlobals "sum" = some none)
    (z_enumerate : PySem.W.nsIn K mainGlobals "enumerate" = some none)
    (z_super : PySem.W.nsIn K mainGlobals "super" = some none)
    : LawAtS l w K CX0 11 63 "_law_script" mg fa h := by
  have e := hfa.symm.trans (PySem.W.mg_of X G alaw)
  cases e
  have FL := fun_mk (st := sLettersOf) lL cL kL
  have bL := FL.binds (ps := ["text"]) fun _ _ _ _ _ _ us hl => match us, hl with | [_], _ => rfl
  have FSg := fun_mk (st := sSignOf) lSg cSg kSg
  have bSg := FSg.binds (ps := ["text"]) fun _ _ _ _ _ _ us hl => match us, hl with | [_], _ => rfl
  have FSd := fun_mk (st := sSigned) lSd cSd kSd
  have bSd := FSd.binds (ps := ["turns", "letters"]) fun _ _ _ _ _ _ us hl => match us, hl with | [_, _], _ => rfl
  have FIs := fun_mk (st := sIsStr) lIs cIs kIs
  have bIs := FIs.binds (ps := ["text"]) fun _ _ _ _ _ _ us hl => match us, hl with | [_], _ => rfl
  have FCs := fun_mk (st := sChkS) lCs cCs kCs
  have bCs := FCs.binds (ps := ["text"]) fun _ _ _ _ _ _ us hl => match us, hl with | [_], _ => rfl
  have FTw := fun_mk (st := sTwo) lTw cTw kTw
  have bTw := FTw.binds (ps := ["one", "other"]) fun _ _ _ _ _ _ us hl => match us, hl with | [_, _], _ => rfl
  have FMul := fun_mk (st := sMult) lMul cMul kMul
  have FId := fun_mk (st := sIden) lId cId kId
  have bId := FId.binds (ps := ["size"]) fun _ _ _ _ _ _ us hl => match us, hl with | [_], _ => rfl
  have FZo := fun_mk (st := sSizeOf) lZo cZo kZo
  have bZo := FZo.binds (ps := ["table"]) fun _ _ _ _ _ _ us hl => match us, hl with | [_], _ => rfl
  have FV := fun_mk (st := sValueOf) lV cV kV
  have bV := FV.binds (ps := ["table", "word"]) fun _ _ _ _ _ _ us hl => match us, hl with | [_, _], _ => rfl
  have FIn := fun_mk (st := sIsNode) lIn cIn kIn
  have bIn := FIn.binds (ps := ["number"]) fun _ _ _ _ _ _ us hl => match us, hl with | [_], _ => rfl
  have FIm := fun_mk (st := sIsMark) lIm cIm kIm
  have bIm := FIm.binds (ps := ["number"]) fun _ _ _ _ _ _ us hl => match us, hl with | [_], _ => rfl
  have FIa := fun_mk (st := sIsName) lIa cIa kIa
  have bIa := FIa.binds (ps := ["text"]) fun _ _ _ _ _ _ us hl => match us, hl with | [_], _ => rfl
  have FJ := fun_mk (st := sJoins) lJ cJ kJ
  have bJ := FJ.binds (ps := ["marks", "pair"]) fun _ _ _ _ _ _ us hl => match us, hl with | [_, _], _ => rfl
  have FCm := fun_mk (st := sChkM) lCm cCm kCm
  have bCm := FCm.binds (ps := ["marks"]) fun _ _ _ _ _ _ us hl => match us, hl with | [_], _ => rfl
  have FCe := fun_mk (st := sChkE) lCe cCe kCe
  have bCe := FCe.binds (ps := ["marks", "edges"]) fun _ _ _ _ _ _ us hl => match us, hl with | [_, _], _ => rfl
  have FMu := fun_mk (st := sMut) lMu cMu kMu
  have bMu := FMu.binds (ps := ["count", "odd"]) fun _ _ _ _ _ _ us hl => match us, hl with | [_, _], _ => rfl
  have FNa := fun_mk (st := sNamed) lNa cNa kNa
  have bNa := FNa.binds (ps := ["pairs"]) fun _ _ _ _ _ _ us hl => match us, hl with | [_], _ => rfl
  have FB := fun_mk (st := sBag) lB cB kB
  have bB := FB.binds (ps := ["_law_script"]) fun _ _ _ _ _ _ us hl => match us, hl with | [_], _ => rfl
  have FP := fun_mk (st := sPull) lP cP kP
  have bP := FP.binds (ps := ["_law_bag_here", "_law_many"]) fun _ _ _ _ _ _ us hl => match us, hl with | [_, _], _ => rfl
  have FO := fun_mk (st := sOf) lO cO kO
  have bO := FO.binds (ps := ["_law_bag_here", "_law_things"]) fun _ _ _ _ _ _ us hl => match us, hl with | [_, _], _ => rfl
  have FM := fun_mk (st := sMixed) lM cM kM
  have bM := FM.binds (ps := ["_law_bag_here", "_law_things"]) fun _ _ _ _ _ _ us hl => match us, hl with | [_, _], _ => rfl
  have FE := fun_mk (st := sSame) lE cE kE
  have bE := FE.binds (ps := ["_law_found", "_law_due"]) fun _ _ _ _ _ _ us hl => match us, hl with | [_, _], _ => rfl
  have FFi := fun_mk (st := sField) lFi cFi kFi
  have bFi := FFi.binds (ps := ["_law_e"]) fun _ _ _ _ _ _ us hl => match us, hl with | [_], _ => rfl
  have FTr := fun_mk (st := sTried) lTr cTr kTr
  have bTr := FTr.binds (ps := ["_law_ask"]) fun _ _ _ _ _ _ us hl => match us, hl with | [_], _ => rfl
  have FA := fun_mk (st := sLets) lA cA kA
  have bA := FA.binds (ps := []) fun _ _ _ _ _ _ us hl => match us, hl with | [], _ => rfl
  have FR := fun_mk (st := sRaw) lR cR kR
  have bR := FR.binds (ps := ["_law_bag_here", "_law_wide", "_law_many"]) fun _ _ _ _ _ _ us hl => match us, hl with | [_, _, _], _ => rfl
  have FW := fun_mk (st := sLWeb) lW cW kW
  have bW := FW.binds (ps := ["_law_raw_here"]) fun _ _ _ _ _ _ us hl => match us, hl with | [_], _ => rfl
  have FY := fun_mk (st := sLBody) lY cY kY
  have bY := FY.binds (ps := ["_law_text_here"]) fun _ _ _ _ _ _ us hl => match us, hl with | [_], _ => rfl
  have FLs := fun_mk (st := sLSigned) lLs cLs kLs
  have bLs := FLs.binds (ps := ["_law_mturned", "_law_body_here"]) fun _ _ _ _ _ _ us hl => match us, hl with | [_, _], _ => rfl
  have FTx := fun_mk (st := sLText) lTx cTx kTx
  have bTx := FTx.binds (ps := ["_law_bag_here", "_law_raw_here", "_law_most"]) fun _ _ _ _ _ _ us hl => match us, hl with | [_, _, _], _ => rfl
  have FTb := fun_mk (st := sLTab) lTb cTb kTb
  have bTb := FTb.binds (ps := []) fun _ _ _ _ _ _ us hl => match us, hl with | [], _ => rfl
  have FTi := fun_mk (st := sLTimes) lTi cTi kTi
  have bTi := FTi.binds (ps := ["_law_first", "_law_last"]) fun _ _ _ _ _ _ us hl => match us, hl with | [_, _], _ => rfl
  have FTA := fun_mk (st := sLTAll) lTA cTA kTA
  have bTA := FTA.binds (ps := ["_law_strings_in", "_law_size_here"]) fun _ _ _ _ _ _ us hl => match us, hl with | [_, _], _ => rfl
  have FSt := fun_mk (st := sLString) lSt cSt kSt
  have bSt := FSt.binds (ps := ["_law_bag_here", "_law_size_here"]) fun _ _ _ _ _ _ us hl => match us, hl with | [_, _], _ => rfl
  have FZ := fun_mk (st := sLSize) lZ cZ kZ
  have bZ := FZ.binds (ps := ["_law_strings_in"]) fun _ _ _ _ _ _ us hl => match us, hl with | [_], _ => rfl
  have FUv := fun_mk (st := sLValue) lUv cUv kUv
  have bUv := FUv.binds (ps := ["_law_strings_in", "_law_text_here"]) fun _ _ _ _ _ _ us hl => match us, hl with | [_, _], _ => rfl
  have FXIw := fun_mk (st := sIW) lXIw cXIw kXIw
  have bXIw := FXIw.binds (ps := ["self", "position"]) fun _ _ _ _ _ _ us hl => match us, hl with | [_, _], _ => rfl
  have Finit := fun_mk (st := sWInit) linit cinit kinit
  have binit := Finit.binds (ps := ["self", "marks", "edges"]) fun _ _ _ _ _ _ us hl => match us, hl with | [_, _, _], _ => rfl
  have Fhas := fun_mk (st := sWHas) lhas chas khas
  have bhas := Fhas.binds (ps := ["self", "x"]) fun _ _ _ _ _ _ us hl => match us, hl with | [_, _], _ => rfl
  have gL := PySem.W.mg_of X G aL
  have gSg := PySem.W.mg_of X G aSg
  have gSd := PySem.W.mg_of X G aSd
  have gIs := PySem.W.mg_of X G aIs
  have gCs := PySem.W.mg_of X G aCs
  have gTw := PySem.W.mg_of X G aTw
  have gMul := PySem.W.mg_of X G aMul
  have gId := PySem.W.mg_of X G aId
  have gZo := PySem.W.mg_of X G aZo
  have gV := PySem.W.mg_of X G aV
  have gIn := PySem.W.mg_of X G aIn
  have gIm := PySem.W.mg_of X G aIm
  have gIa := PySem.W.mg_of X G aIa
  have gJ := PySem.W.mg_of X G aJ
  have gCm := PySem.W.mg_of X G aCm
  have gCe := PySem.W.mg_of X G aCe
  have gMu := PySem.W.mg_of X G aMu
  have gNa := PySem.W.mg_of X G aNa
  have gB := PySem.W.mg_of X G aB
  have gP := PySem.W.mg_of X G aP
  have gO := PySem.W.mg_of X G aO
  have gM := PySem.W.mg_of X G aM
  have gE := PySem.W.mg_of X G aE
  have gFi := PySem.W.mg_of X G aFi
  have gTr := PySem.W.mg_of X G aTr
  have gA := PySem.W.mg_of X G aA
  have gR := PySem.W.mg_of X G aR
  have gW := PySem.W.mg_of X G aW
  have gY := PySem.W.mg_of X G aY
  have gLs := PySem.W.mg_of X G aLs
  have gTx := PySem.W.mg_of X G aTx
  have gTb := PySem.W.mg_of X G aTb
  have gTi := PySem.W.mg_of X G aTi
  have gTA := PySem.W.mg_of X G aTA
  have gSt := PySem.W.mg_of X G aSt
  have gZ := PySem.W.mg_of X G aZ
  have gUv := PySem.W.mg_of X G aUv
  have gIw := PySem.W.mg_of X G aIw
  have gCT := PySem.W.mg_of X G aCT
  have gCM := PySem.W.mg_of X G aCM
  have m_isinstance := PySem.W.mg_none_of X G z_isinstance
  have m_dict := PySem.W.mg_none_of X G z_dict
  have m_list := PySem.W.mg_none_of X G z_list
  have m_tuple := PySem.W.mg_none_of X G z_tuple
  have m_bool := PySem.W.mg_none_of X G z_bool
  have m_int := PySem.W.mg_none_of X G z_int
  have m_str := PySem.W.mg_none_of X G z_str
  have m_len := PySem.W.mg_none_of X G z_len
  have m_all := PySem.W.mg_none_of X G z_all
  have m_zip := PySem.W.mg_none_of X G z_zip
  have m_sorted := PySem.W.mg_none_of X G z_sorted
  have m_range := PySem.W.mg_none_of X G z_range
  have m_min := PySem.W.mg_none_of X G z_min
  have m_max := PySem.W.mg_none_of X G z_max
  have m_sum := PySem.W.mg_none_of X G z_sum
  have m_enumerate := PySem.W.mg_none_of X G z_enumerate
  have m_super := PySem.W.mg_none_of X G z_super
  have gA0 := PySem.W.mg_of X G slt
  have gD := PySem.W.mg_of X G d1
  have KD := kd_all d2 d3 (fun p hp => by simp only [ptab, List.mem_cons, List.not_mem_nil, or_false] at hp; rcases hp with rfl | rfl | rfl | rfl | rfl | rfl | rfl | rfl | rfl | rfl | rfl | rfl | rfl | rfl | rfl | rfl; all_goals first | exact ⟨_, q0⟩ | exact ⟨_, q1⟩ | exact ⟨_, q2⟩ | exact ⟨_, q3⟩ | exact ⟨_, q4⟩ | exact ⟨_, q5⟩ | exact ⟨_, q6⟩ | exact ⟨_, q7⟩ | exact ⟨_, q8⟩ | exact ⟨_, q9⟩ | exact ⟨_, q10⟩ | exact ⟨_, q11⟩ | exact ⟨_, q12⟩ | exact ⟨_, q13⟩ | exact ⟨_, q14⟩ | exact ⟨_, q15⟩)
  have gWeb := PySem.W.mg_of X G aC0
  have T : ChkT K mg C (.type "type") := ⟨gWeb, ⟨rd, ga⟩, ⟨_, ⟨vN, ⟨_, rfl⟩⟩⟩, ⟨_, PySem.W.mg_of X G vA⟩, m_sorted, m_len⟩
  have U : WebT K mg C := ⟨⟨pg, hd, po, sa⟩, nM, nP, nS, m_tuple⟩
  have RT : RawT mg := ⟨m_sorted, m_list, m_range, m_dict, m_min, m_max, m_len⟩
  have M : Mk K C finit := ⟨mk, ainit, iinit, kc⟩
  have TIw : OexC K CIw := ⟨⟨_, _, _, _, _, _, _, _, _, _, _, _, _, _, _, clsIw, rvIw⟩, saIw, exCIw, tyCIw, kCIw⟩
  refine ⟨PySem.W.fnOf "law" "law" (defArgs sLaw) (defBody sLaw) (defScope sLaw) .none kVlaw dclaw pmlaw anlaw (.ref c) ctlaw, [(c, PT)], spLawT K PT, ?_, ?_, ?_, fun s v => .of_eq rfl, ?_, fun base _ _ tabs => ?_⟩
  · intro p hp
    rw [List.mem_singleton.mp hp]
    exact empty
  · intro p hp
    rw [List.mem_singleton.mp hp]
    exact noP
  · intro p hp
    rw [List.mem_singleton.mp hp]
    exact PySem.W.codeHd_of_K X hcode
  · intro H a ns hl _ hT hS
    exact ⟨a, ns, rfl, hS, hl, hT (c, PT) List.mem_cons_self, fun _ => rfl⟩
  have TB : TabB base mg c PT := tabs (c, PT) List.mem_cons_self
  clear tabs empty hcode noP d3 d2
  have ST : SameT mg := ⟨m_isinstance, m_dict, m_list, m_tuple, m_bool, m_int, m_str, m_len, m_all, m_zip⟩
  have BT : BuiltT K mg C (.type "type") := ⟨⟨_, ⟨vE, ⟨_, rfl⟩⟩⟩, ⟨_, PySem.W.mg_of X G vM⟩, m_range, m_zip, m_dict⟩
  have FCc := fun_mk (st := sComp) lCc cCc kCc
  obtain ⟨dsC, vC, bC⟩ := kw_comp lCc cCc kCc nCc
  have Fem := fun_mk (st := sEmpty) lem cem kem
  have bem := Fem.binds (ps := []) fun _ _ _ _ _ _ us hl => match us, hl with | [], _ => rfl
  have gTC := PySem.W.mg_of X G aTC
  have ZT : CertT K CTC := ⟨⟨pgT, hdT, poT, saT⟩, nST, nRT⟩
  have FXi := funS_mk (st := sTInit) lXi cXi kXi
  have bXi := FXi.binds (ps := ["self", "web", "table"]) fun _ _ _ _ _ us hl => match us, hl with | [_, _, _], _ => rfl
  have FXc := fun_mk (st := sCInit) lXc cXc kXc
  have bXc := FXc.binds (ps := ["self", "web"]) fun _ _ _ _ _ _ us hl => match us, hl with | [_, _], _ => rfl
  have FXa := fun_mk (st := sTCall) lXa cXa kXa
  have bXa := FXa.binds (ps := ["self", "word"]) fun _ _ _ _ _ _ us hl => match us, hl with | [_, _], _ => rfl
  have FXr := fun_mk (st := sTRows) lXr cXr kXr
  have bXr := FXr.binds (ps := ["self"]) fun _ _ _ _ _ _ us hl => match us, hl with | [_], _ => rfl
  have SU : Sup l.prog K mg ccx cda CTC CTC fXc "__init__" := ⟨⟨_, _, _, _, _, _, lcd, hvs, fl⟩, ⟨_, _, _, lce⟩, Option.isSome_iff_exists.mp icT, sub, m_super, anyC, nxt, tyf, fnf, topS⟩
  have GP := ok_pull (P := l.prog) (w := w) (base := base) FP m_len
  have GO := ok_of (P := l.prog) (w := w) (base := base) FO FP bP gP m_len
  have GM := ok_mixed (P := l.prog) (w := w) (base := base) FM FP bP gP m_len m_list m_range
  have GR := ok_raw (P := l.prog) (w := w) (base := base) FR FP bP gP FM bM gM FA bA gA RT
  have GI := ok_winit (P := l.prog) (w := w) (base := base) Finit (ok_chkm FCm FIn bIn gIn FIm bIm gIm T) FCm bCm gCm (ok_chke FCe FIa bIa gIa FJ bJ gJ T) FCe bCe gCe T U
  have GW := ok_lwebg (P := l.prog) (w := w) (base := base) FW M GI binit gWeb m_dict
  have GE := ok_same (P := l.prog) (w := w) (base := base) FE ST gE bE 1
  have GC := ok_comp (P := l.prog) (w := w) (base := base) FCc M GI binit FMu bMu gMu FNa bNa gNa T BT
  have GEm := ok_empty (P := l.prog) (w := w) (base := base) Fem M GI binit T
  have GHas := ok_whas (P := l.prog) (w := w) (base := base) Fhas U
  have RM := ok_mult (P := l.prog) (w := w) (base := base) FMul FCs bCs gCs FIs bIs gIs FTw bTw gTw FL bL gL FSg bSg gSg FSd bSd gSd gA0 gD KD m_len m_sum m_zip m_all
  have GV := ok_valueof (P := l.prog) (w := w) (base := base) FV FL bL gL FSg bSg gSg FSd bSd gSd FZo bZo gZo FId bId gId RM kMul gMul FXIw bXIw TIw aXIw tXIw ncIw n_positionIw gIw m_len m_min m_list m_enumerate
  have GS := ok_lstring (P := l.prog) (w := w) (base := base) FSt FP bP gP FO bO gO FLs bLs gLs m_len m_range
  have GT := ok_ltext (P := l.prog) (w := w) (base := base) FTx FP bP gP FO bO gO FLs bLs gLs m_len m_range m_sorted
  have GZ := ok_lsize (P := l.prog) (w := w) (base := base) FZ FY bY gY m_sorted m_len
  have GTi := ok_ltimes (P := l.prog) (w := w) (base := base) FTi FTb bTb gTb FY bY gY FLs bLs gLs m_int m_zip
  have GTA := ok_ltall (P := l.prog) (w := w) (base := base) FTA FTi bTi gTi FTb bTb gTb FY bY gY FLs bLs gLs m_int m_zip
  have GU := ok_lvalue (P := l.prog) (w := w) (base := base) FUv GZ FZ bZ gZ GTA FTA bTA gTA GTi FTi bTi gTi FY bY gY
  have GXi := ok_tinit (P := l.prog) (w := w) (base := base) FXi SU FXc bXc ZT m_dict
  have GXa := ok_tcall (P := l.prog) (w := w) (base := base) FXa GV FV bV gV ZT
  have GXr := ok_trows (P := l.prog) (w := w) (base := base) FXr ZT m_dict
  exact ok_law (fd := PySem.W.fnOf "law" "law" (defArgs sLaw) (defBody sLaw) (defScope sLaw) .none kVlaw dclaw pmlaw anlaw (.ref c) ctlaw) llaw claw (ok_bag FB m_list) FB bB gB GP FP bP gP GO FO bO gO GE FE bE gE (ok_lets FA) FA bA gA GR FR bR gR GW FW bW gW (ok_lbody FY) FY bY gY GT FTx bTx gTx GS FSt bSt gSt GU FUv bUv gUv
    ZT ⟨mkT, aXi, iXi, kcT⟩ gTC GXi bXi ⟨aXa, iXa, fna⟩ GXa bXa kb_call GXr bXr ⟨aXr, iXr, kXr⟩ ahas ihas GHas bhas T ⟨aem, ⟨_, rem⟩, kem⟩ GEm bem ⟨aCc, ⟨_, rCc⟩, iCc⟩ (GC.raw bC vC) (fun H => sq_given qCc H)
    gTr kTr lTr cTr bTr lFi cFi bFi gFi kFi gCT gCM x1Iw (xfB_ok xfIw) ncIw n_positionIw TB m_range m_dict m_list m_len m_sorted


end T78


open PySem PySem.W PyProof.Rows in
set_option maxRecDepth 100000 in
set_option maxHeartbeats 0 in
theorem PySem.Challenge.cw_threadmark_k78_webs_and_tables_asked_by_holds : PySem.Challenge.rw_threadmark_k78_webs_and_tables_asked_by.Holds := by
  w_on; o_law; k_head; (case hw => w_witness2)
  k_fill
  refine LamX.walk_ofTs (l := PySem.Challenge.rw_threadmark_k78_webs_and_tables_asked_by) (n := 63) (k := 11) (x := "_law_script") (CX := fun _ => L2.CX0) rfl (by decide) rfl ⟨rfl, by decide, by decide⟩ (fun w h Y => PySem.W.km_in_of Y) ?F (fun _ _ _ _ _ h => h)
  case F =>
    intro w mg fa h Y KX G hmg
    have tb := PySem.W.km_tabs_of Y 794 (by decide)
    have hm2 : mg "law" = some (.ref fa) := hmg
    clear Y hmg
    refine' T78.all_mk 794 KX G hm2 tb ?aIw ?aCT ?aCM ?aC0 ?aL ?lL ?cL ?kL ?aSg ?lSg ?cSg ?kSg ?aSd ?lSd ?cSd ?kSd ?aIs ?lIs ?cIs ?kIs ?aCs ?lCs ?cCs ?kCs ?aTw ?lTw ?cTw ?kTw ?aMul ?lMul ?cMul ?kMul ?aId ?lId ?cId ?kId ?aZo ?lZo ?cZo ?kZo ?aV ?lV ?cV ?kV ?aIn ?lIn ?cIn ?kIn ?aIm ?lIm ?cIm ?kIm ?aIa ?lIa ?cIa ?kIa ?aJ ?lJ ?cJ ?kJ ?aCm ?lCm ?cCm ?kCm ?aCe ?lCe ?cCe ?kCe ?aMu ?lMu ?cMu ?kMu ?aNa ?lNa ?cNa ?kNa ?aB ?lB ?cB ?kB ?aP ?lP ?cP ?kP ?aO ?lO ?cO ?kO ?aM ?lM ?cM ?kM ?aE ?lE ?cE ?kE ?aFi ?lFi ?cFi ?kFi ?aTr ?lTr ?cTr ?kTr ?aA ?lA ?cA ?kA ?aR ?lR ?cR ?kR ?aW ?lW ?cW ?kW ?aY ?lY ?cY ?kY ?aLs ?lLs ?cLs ?kLs ?aTx ?lTx ?cTx ?kTx ?aTb ?lTb ?cTb ?kTb ?aTi ?lTi ?cTi ?kTi ?aTA ?lTA ?cTA ?kTA ?aSt ?lSt ?cSt ?kSt ?aZ ?lZ ?cZ ?kZ ?aUv ?lUv ?cUv ?kUv ?alaw ?llaw ?claw ?klaw ?aXIw ?lXIw ?cXIw ?kXIw ?tXIw ?saIw ?exCIw ?tyCIw ?kCIw ?clsIw ?rvIw ?ncIw ?x1Iw ?xmIw ?xfIw ?n_positionIw ?hcode ?noP ?slt ?d1 ?d2 ?d3 ?q0 ?q1 ?q2 ?q3 ?q4 ?q5 ?q6 ?q7 ?q8 ?q9 ?q10 ?q11 ?q12 ?q13 ?q14 ?q15 ?ainit ?iinit ?linit ?cinit ?kinit ?ahas ?ihas ?lhas ?chas ?khas ?pg ?hd ?po ?sa ?mk ?kc ?nM ?nP ?nS ?rd ?ga ?vN ?vA ?aCc ?rCc ?iCc ?lCc ?cCc ?kCc ?nCc ?qCc ?vE ?vM ?aem ?rem ?lem ?cem ?kem ?aTC ?pgT ?hdT ?poT ?saT ?mkT ?kcT ?nST ?nRT ?icT ?aXi ?iXi ?lXi ?cXi ?kXi ?lcd ?hvs ?fl ?lce ?sub ?anyC ?nxt ?tyf ?fnf ?lXc ?cXc ?kXc ?topS ?aXa ?iXa ?lXa ?cXa ?kXa ?fna ?aXr ?iXr ?lXr ?cXr ?kXr ?z_isinstance ?z_dict ?z_list ?z_tuple ?z_bool ?z_int ?z_str ?z_len ?z_all ?z_zip ?z_sorted ?z_range ?z_min ?z_max ?z_sum ?z_enumerate ?z_super
    (case aIw => k_is)
    (case aCT => k_is)
    (case aCM => k_is)
    (case aC0 => k_is)
    (case aL => k_is)
    (case lL => k_is)
    (case cL => k_is)
    (case kL => k_is)
    (case aSg => k_is)
    (case lSg => k_is)
    (case cSg => k_is)
    (case kSg => k_is)
    (case aSd => k_is)
    (case lSd => k_is)
    (case cSd => k_is)
    (case kSd => k_is)
    (case aIs => k_is)
    (case lIs => k_is)
    (case cIs => k_is)
    (case kIs => k_is)
    (case aCs => k_is)
    (case lCs => k_is)
    (case cCs => k_is)
    (case kCs => k_is)
    (case aTw => k_is)
    (case lTw => k_is)
    (case cTw => k_is)
    (case kTw => k_is)
    (case aMul => k_is)
    (case lMul => k_is)
    (case cMul => k_is)
    (case kMul => k_is)
    (case aId => k_is)
    (case lId => k_is)
    (case cId => k_is)
    (case kId => k_is)
    (case aZo => k_is)
    (case lZo => k_is)
    (case cZo => k_is)
    (case kZo => k_is)
    (case aV => k_is)
    (case lV => k_is)
    (case cV => k_is)
    (case kV => k_is)
    (case aIn => k_is)
    (case lIn => k_is)
    (case cIn => k_is)
    (case kIn => k_is)
    (case aIm => k_is)
    (case lIm => k_is)
    (case cIm => k_is)
    (case kIm => k_is)
    (case aIa => k_is)
    (case lIa => k_is)
    (case cIa => k_is)
    (case kIa => k_is)
    (case aJ => k_is)
    (case lJ => k_is)
    (case cJ => k_is)
    (case kJ => k_is)
    (case aCm => k_is)
    (case lCm => k_is)
    (case cCm => k_is)
    (case kCm => k_is)
    (case aCe => k_is)
    (case lCe => k_is)
    (case cCe => k_is)
    (case kCe => k_is)
    (case aMu => k_is)
    (case lMu => k_is)
    (case cMu => k_is)
    (case kMu => k_is)
    (case aNa => k_is)
    (case lNa => k_is)
    (case cNa => k_is)
    (case kNa => k_is)
    (case aB => k_is)
    (case lB => k_is)
    (case cB => k_is)
    (case kB => k_is)
    (case aP => k_is)
    (case lP => k_is)
    (case cP => k_is)
    (case kP => k_is)
    (case aO => k_is)
    (case lO => k_is)
    (case cO => k_is)
    (case kO => k_is)
    (case aM => k_is)
    (case lM => k_is)
    (case cM => k_is)
    (case kM => k_is)
    (case aE => k_is)
    (case lE => k_is)
    (case cE => k_is)
    (case kE => k_is)
    (case aFi => k_is)
    (case lFi => k_is)
    (case cFi => k_is)
    (case kFi => k_is)
    (case aTr => k_is)
    (case lTr => k_is)
    (case cTr => k_is)
    (case kTr => k_is)
    (case aA => k_is)
    (case lA => k_is)
    (case cA => k_is)
    (case kA => k_is)
    (case aR => k_is)
    (case lR => k_is)
    (case cR => k_is)
    (case kR => k_is)
    (case aW => k_is)
    (case lW => k_is)
    (case cW => k_is)
    (case kW => k_is)
    (case aY => k_is)
    (case lY => k_is)
    (case cY => k_is)
    (case kY => k_is)
    (case aLs => k_is)
    (case lLs => k_is)
    (case cLs => k_is)
    (case kLs => k_is)
    (case aTx => k_is)
    (case lTx => k_is)
    (case cTx => k_is)
    (case kTx => k_is)
    (case aTb => k_is)
    (case lTb => k_is)
    (case cTb => k_is)
    (case kTb => k_is)
    (case aTi => k_is)
    (case lTi => k_is)
    (case cTi => k_is)
    (case kTi => k_is)
    (case aTA => k_is)
    (case lTA => k_is)
    (case cTA => k_is)
    (case kTA => k_is)
    (case aSt => k_is)
    (case lSt => k_is)
    (case cSt => k_is)
    (case kSt => k_is)
    (case aZ => k_is)
    (case lZ => k_is)
    (case cZ => k_is)
    (case kZ => k_is)
    (case aUv => k_is)
    (case lUv => k_is)
    (case cUv => k_is)
    (case kUv => k_is)
    (case alaw => k_is)
    (case llaw => k_is)
    (case claw => k_is)
    (case klaw => k_is)
    (case aXIw => k_is)
    (case lXIw => k_is)
    (case cXIw => k_is)
    (case kXIw => k_is)
    (case tXIw => k_is)
    (case saIw => k_is)
    (case exCIw => k_is)
    (case tyCIw => k_is)
    (case kCIw => k_is)
    (case clsIw => k_is)
    (case rvIw => first | k_is | rfl | kernel_rfl | decide +kernel)
    (case ncIw => k_is)
    (case x1Iw => first | k_is | rfl | kernel_rfl | decide +kernel)
    (case xmIw => first | k_is | rfl | kernel_rfl | decide +kernel)
    (case xfIw => first | k_is | rfl | kernel_rfl | decide +kernel)
    (case n_positionIw => k_is)
    (case hcode => first | k_is | rfl | kernel_rfl | decide +kernel)
    (case noP => first | k_is | rfl | kernel_rfl | decide +kernel)
    (case slt => k_is)
    (case d1 => k_is)
    (case d2 => k_is)
    (case d3 => exact ⟨⟨_, _, rfl, rfl⟩, ⟨_, _, rfl, rfl⟩, ⟨_, _, rfl, rfl⟩, ⟨_, _, rfl, rfl⟩, ⟨_, _, rfl, rfl⟩, ⟨_, _, rfl, rfl⟩, ⟨_, _, rfl, rfl⟩, ⟨_, _, rfl, rfl⟩, ⟨_, _, rfl, rfl⟩, ⟨_, _, rfl, rfl⟩, ⟨_, _, rfl, rfl⟩, ⟨_, _, rfl, rfl⟩, ⟨_, _, rfl, rfl⟩, ⟨_, _, rfl, rfl⟩, ⟨_, _, rfl, rfl⟩, ⟨_, _, rfl, rfl⟩, trivial⟩)
    (case q0 => k_is)
    (case q1 => k_is)
    (case q2 => k_is)
    (case q3 => k_is)
    (case q4 => k_is)
    (case q5 => k_is)
    (case q6 => k_is)
    (case q7 => k_is)
    (case q8 => k_is)
    (case q9 => k_is)
    (case q10 => k_is)
    (case q11 => k_is)
    (case q12 => k_is)
    (case q13 => k_is)
    (case q14 => k_is)
    (case q15 => k_is)
    (case ainit => k_is)
    (case iinit => k_is)
    (case linit => k_is)
    (case cinit => k_is)
    (case kinit => k_is)
    (case ahas => k_is)
    (case ihas => k_is)
    (case lhas => k_is)
    (case chas => k_is)
    (case khas => k_is)
    (case pg => k_is)
    (case hd => k_is)
    (case po => k_is)
    (case sa => k_is)
    (case mk => k_is)
    (case kc => k_is)
    (case nM => k_is)
    (case nP => k_is)
    (case nS => k_is)
    (case rd => k_is)
    (case ga => k_is)
    (case vN => k_is)
    (case vA => k_is)
    (case aCc => k_is)
    (case rCc => k_is)
    (case iCc => k_is)
    (case lCc => k_is)
    (case cCc => k_is)
    (case kCc => k_is)
    (case nCc => k_is)
    (case qCc => k_is)
    (case vE => k_is)
    (case vM => k_is)
    (case aem => k_is)
    (case rem => k_is)
    (case lem => k_is)
    (case cem => k_is)
    (case kem => k_is)
    (case aTC => k_is)
    (case pgT => k_is)
    (case hdT => k_is)
    (case poT => k_is)
    (case saT => k_is)
    (case mkT => k_is)
    (case kcT => k_is)
    (case nST => k_is)
    (case nRT => k_is)
    (case icT => k_is)
    (case aXi => k_is)
    (case iXi => k_is)
    (case lXi => k_is)
    (case cXi => k_is)
    (case kXi => k_is)
    (case lcd => k_is)
    (case hvs => rfl)
    (case fl => first | k_is | rfl | kernel_rfl | decide +kernel)
    (case lce => k_is)
    (case sub => first | k_is | rfl | kernel_rfl | decide +kernel)
    (case anyC => k_is)
    (case nxt => first | k_is | rfl | kernel_rfl | decide +kernel)
    (case tyf => k_is)
    (case fnf => k_is)
    (case lXc => k_is)
    (case cXc => k_is)
    (case kXc => k_is)
    (case topS => first | k_is | rfl | kernel_rfl | decide +kernel)
    (case aXa => k_is)
    (case iXa => k_is)
    (case lXa => k_is)
    (case cXa => k_is)
    (case kXa => k_is)
    (case fna => k_is)
    (case aXr => k_is)
    (case iXr => k_is)
    (case lXr => k_is)
    (case cXr => k_is)
    (case kXr => k_is)
    (case z_isinstance => k_is)
    (case z_dict => k_is)
    (case z_list => k_is)
    (case z_tuple => k_is)
    (case z_bool => k_is)
    (case z_int => k_is)
    (case z_str => k_is)
    (case z_len => k_is)
    (case z_all => k_is)
    (case z_zip => k_is)
    (case z_sorted => k_is)
    (case z_range => k_is)
    (case z_min => k_is)
    (case z_max => k_is)
    (case z_sum => k_is)
    (case z_enumerate => k_is)
    (case z_super => k_is)

