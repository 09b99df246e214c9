import PyProof.Rows.All
import Wide.All
import OpenK.AllK
import Wide.FinOn
import HandS.ForMost
import HandS.Flow
import HandS.Style
import HandS.StrMore
import HandS.IsInst
import HandS.Zip
import HandS.Conv
import HandS.Walk
import HandS.More
import HandS.ClsMeth
import HandS.DictComp
import KE.GoesNew
import KE.GoesMore
import KE.KDictZip
import HandS.Defaults
import HandS.OwnEq
import HandS.CallLocal
import PySem.Challenge.RW_threadmark_k06_notes_of_webs
set_option Elab.async false
set_option linter.all false
set_option maxRecDepth 100000
/-! The part that every law of this program shares: heaps, the bag, a few rules. -/
namespace Tm
open PySem PySem.Spec PyProof.Rows L2

/-! ### heaps: all but the object at b is as it was -/
def Kp (b : Addr) (H H' : Hp) : Prop := ∀ p o, p ≠ b → H p = some o → H' p = some o
theorem Kp.refl (b : Addr) (H : Hp) : Kp b H H := fun _ _ _ h => h
theorem Kp.trans {b : Addr} {H H1 H2 : Hp} (x : Kp b H H1) (y : Kp b H1 H2) : Kp b H H2 := fun p o n h => y p o n (x p o n h)
theorem Kp.of_same {b : Addr} {H H' : Hp} (s : Same H H') : Kp b H H' := fun p o _ h => s p o h
theorem Kp.set {b : Addr} {H : Hp} {o : HO} : Kp b H (upd H b o) := fun p u n h => by rw [upd_ne n]; exact h
theorem Kp.new {b q : Addr} {H : Hp} {o : HO} (h : H q = none) : Kp b H (upd H q o) := fun p u _ e => by
  rw [upd_ne (ne_of_none e h)]; exact e
/-- a store to an object that was not there at the start -/
theorem Kp.put {b q : Addr} {H H' : Hp} {o : HO} (k : Kp b H H') (h : H q = none) : Kp b H (upd H' q o) := fun p u n e => by
  rw [upd_ne (ne_of_none e h)]; exact k p u n e
theorem same_upd {H : Hp} {p : Addr} {o : HO} (h : H p = none) : Same H (upd H p o) := fun b x e => by
  rw [upd_ne (ne_of_none e h)]; exact e
theorem same_put {q : Addr} {H H' : Hp} {o : HO} (k : Same H H') (h : H q = none) : Same H (upd H' q o) := fun p u e => by
  rw [upd_ne (ne_of_none e h)]; exact k p u e
theorem Kp.free {b : Addr} {H H' : Hp} (e : Kp b H H') {l : Addr} (hb : ∃ o, H' b = some o) (h : H' l = none) : H l = none := by
  obtain ⟨o, hb⟩ := hb
  have n : l ≠ b := fun z => by rw [z, hb] at h; cases h
  cases q : H l with
  | none => rfl
  | some o => rw [e l o n q] at h; cases h
theorem Kp.seq {K : PySem.W.Frag} {b : Addr} {H H' : Hp} {a : Addr} {xs : List V} (e : Kp b H H') (n : a ≠ b) (h : SqL K H a xs) : SqL K H' a xs :=
  h.imp (fun seen => seen.imp (e a _ n) (fun ⟨ob, at_a⟩ => ⟨ob, e a _ n at_a⟩)) id

/-! ### the bag of the draws -/
def Bag (H : Hp) (b l : Addr) : Prop := ∃ (xs : List Int) (i n s : Int), H b = some (.lst [.ref l, .int i, .int n, .int s]) ∧ H l = some (.lst (xs.map V.int)) ∧ 0 ≤ i ∧ 0 ≤ n ∧ 0 ≤ s ∧ s < 2147483549
theorem bag_ne {H : Hp} {b l : Addr} {xs : List Int} {u v w : V} {a : Addr} (h : H b = some (.lst [.ref a, u, v, w])) (hl : H l = some (.lst (xs.map V.int))) : l ≠ b := ne_of hl h (by
  intro e
  have e2 := HO.lst.inj e
  cases xs with
  | nil => cases e2
  | cons x r => cases e2)
theorem Bag.hb {H : Hp} {b l : Addr} (B : Bag H b l) : ∃ o, H b = some o := by
  obtain ⟨xs, i, n, s, h, _⟩ := B
  exact ⟨_, h⟩
theorem Bag.hl {H : Hp} {b l : Addr} (B : Bag H b l) : ∃ o, H l = some o := by
  obtain ⟨xs, i, n, s, _, h, _⟩ := B
  exact ⟨_, h⟩
theorem Bag.nb {H : Hp} {b l q : Addr} (B : Bag H b l) (h : H q = none) : q ≠ b := fun e => by
  obtain ⟨o, hb⟩ := B.hb
  rw [e, hb] at h; cases h
theorem Bag.nl {H : Hp} {b l q : Addr} (B : Bag H b l) (h : H q = none) : q ≠ l := fun e => by
  obtain ⟨o, hb⟩ := B.hl
  rw [e, hb] at h; cases h
/-- a store elsewhere -/
theorem Bag.put {H : Hp} {b l q : Addr} {o : HO} (B : Bag H b l) (n1 : q ≠ b) (n2 : q ≠ l) : Bag (upd H q o) b l := by
  obtain ⟨xs, i, n, s, hb, hl, r⟩ := B
  exact ⟨xs, i, n, s, by rw [upd_ne n1.symm]; exact hb, by rw [upd_ne n2.symm]; exact hl, r⟩
theorem Bag.new {H : Hp} {b l q : Addr} {o : HO} (B : Bag H b l) (h : H q = none) : Bag (upd H q o) b l := B.put (B.nb h) (B.nl h)
theorem Bag.same {H H' : Hp} {b l : Addr} (B : Bag H b l) (k : Same H H') : Bag H' b l := by
  obtain ⟨xs, i, n, s, hb, hl, r⟩ := B
  exact ⟨xs, i, n, s, k _ _ hb, k _ _ hl, r⟩

/-! ### list(text) -/
def sig (c : Nat) : V := .str ⟨#[c]⟩
/-- two lists, place by place -/
theorem placewise {α β : Type} {R : α → β → Prop} : ∀ (as : List α) (bs : List β), as.length = bs.length → (∀ (j : Nat) (a : α) (b : β), as[j]? = some a → bs[j]? = some b → R a b) → Paired R as bs
  | [], [], _, _ => .nil
  | a :: as, b :: bs, hl, h => .cons (h 0 a b rfl rfl) (placewise as bs (Nat.succ.inj hl) fun j x y hx hy => h (j + 1) x y hx hy)
/-- the cells that the machine drew out of a text are its signs -/
theorem signs_drawn (z : Str) (cells : Array Value) (drawn : ItemsOf (SignAt z) cells z.cps.size) : Vals (z.cps.toList.map sig) cells.toList := by
  apply placewise
  · simp [drawn.1]
  · intro j v u hv hu
    rw [Array.getElem?_toList] at hu
    rcases drawn.2 j u hu with ⟨code, tok, there, rfl⟩
    have same : v = sig code := by
      rw [List.getElem?_map, Array.getElem?_toList, there] at hv
      exact (Option.some.inj hv).symm
    rw [same]
    exact ⟨tok, rfl⟩
theorem call_listS {X : Cx} (calm : X.calm = true) : CallR X (.type "list") (fun given H Q => ∃ z : Str, given = [.str z] ∧ z.length ≤ sizeLine ∧ ∀ l, H l = none → Q (.ref l) (upd H l (.lst (z.cps.toList.map sig)))) :=
  fun pins s σ H given held Q inv rel ask => by
    rcases ask with ⟨z, rfl, short, hand⟩
    match held, rel with
    | [_], .cons ⟨tok, rfl⟩ .nil =>
      apply PySem.call_list_str (inv.ok.hd calm) z tok (hn := short)
      intro heap toks cells ver kept made drawn
      have long : (z.cps.toList.map sig).length ≤ sizeLine := by
        rw [List.length_map, Array.length_toList]
        exact short
      have stands : Inv X pins σ (upd H s.heap.objs.size (.lst (z.cps.toList.map sig))) { s with heap := heap, toks := toks } :=
        inv.laid kept (Nat.le_refl _) ⟨long, cells.toList, ver, signs_drawn z cells drawn, made⟩
      exact ⟨V.ref s.heap.objs.size, _, stands, rfl, hand _ (inv.hok.fresh (Nat.le_refl _))⟩

/-! ### small things -/
theorem cut {t1 t2 : TS} {D : Ends} {σ : L2.St} {H : Hp} (Pv : L2.St → Hp → Prop) (h2 : ∀ σ' H', Pv σ' H' → t2 D σ' H') (h1 : ∀ N : L2.St → Hp → Prop, (∀ σ' H', Pv σ' H' → N σ' H') → t1 { D with nx := N } σ H) : tSeq t1 t2 D σ H := h1 _ h2
theorem cut_ints (ns : List Int) (lo hi : Option Int) : ∃ ms : List Int, cutV (ns.map V.int) lo hi = ms.map V.int := by
  unfold cutV
  rw [← List.map_drop, ← List.map_take]
  exact ⟨_, rfl⟩
theorem cut_int {ns : List Int} {lo hi : Option Int} {i : Nat} {y : V} (h : (cutV (ns.map V.int) lo hi)[i]? = some y) : ∃ u, y = V.int u := by
  obtain ⟨ms, e⟩ := cut_ints ns lo hi
  rw [e, List.getElem?_map] at h
  cases e2 : ms[i]? with
  | none => rw [e2] at h; cases h
  | some u => rw [e2] at h; exact ⟨u, (Option.some.inj h).symm⟩

/-! ### what the helpers promise -/
def spBag (K : PySem.W.Frag) : Sp := fun vs H Q _ => ∃ (a : Addr) (ns : List Int), vs = [.ref a] ∧ SqL K H a (ns.map V.int) ∧ ∀ H' b l, Same H H' → H b = none → H l = none → Bag H' b l → Q (.ref b) H'
def spPull : Sp := fun vs H Q _ => ∃ (b l : Addr) (m : Int), vs = [.ref b, .int m] ∧ Bag H b l ∧ 0 < m ∧ m < 1073741824 ∧ ∀ H' (d : Int), Kp b H H' → Bag H' b l → 0 ≤ d → d < m → Q (.int d) H'

/-! ### equal data -/
inductive Eqv (H : Hp) : Nat → V → V → Prop where
  | non (n : Nat) : Eqv H n .non .non
  | bl (n : Nat) (b : Bool) : Eqv H n (.bl b) (.bl b)
  | int (n : Nat) (i : Int) : Eqv H n (.int i) (.int i)
  | str (n : Nat) (z : Str) : Eqv H n (.str z) (.str z)
  | lst {n : Nat} {p q : Addr} {xs ys : List V} (hp : H p = some (.lst xs)) (hq : H q = some (.lst ys)) (hl : xs.length = ys.length) (hz : xs.length ≤ 10000) (h : ∀ (i : Nat) (x y : V), xs[i]? = some x → ys[i]? = some y → Eqv H n x y) : Eqv H (n + 1) (.ref p) (.ref q)
  | tup {n : Nat} {p q : Addr} {xs ys : List V} (hp : H p = some (.tup xs)) (hq : H q = some (.tup ys)) (hl : xs.length = ys.length) (hz : xs.length ≤ 10000) (h : ∀ (i : Nat) (x y : V), xs[i]? = some x → ys[i]? = some y → Eqv H n x y) : Eqv H (n + 1) (.ref p) (.ref q)
theorem Eqv.same {H H' : Hp} (s : Same H H') {n : Nat} {x y : V} (e : Eqv H n x y) : Eqv H' n x y := by
  induction e with
  | non n => exact .non n
  | bl n b => exact .bl n b
  | int n i => exact .int n i
  | str n z => exact .str n z
  | lst hp hq hl hz h ih => exact .lst (s _ _ hp) (s _ _ hq) hl hz ih
  | tup hp hq hl hz h ih => exact .tup (s _ _ hp) (s _ _ hq) hl hz ih
def spSame (n : Nat) : Sp := fun vs H Q _ => ∃ (x y : V), vs = [x, y] ∧ Eqv H n x y ∧ ∀ H', Same H H' → Q (.bl true) H'
/-- the type of a flat value -/
theorem kit_list {K : PySem.W.Frag} {a : String} {r : Bool} (h : kitB a "list" = some r) (h2 : r = false → kitB a "tuple" = some false) : PySem.W.kitAny K (.type a) [.type "list", .type "tuple"] = some r := by
  refine kitAny_cons (kit_ty h) (fun e => ?_) (fun e => e)
  subst e
  exact kitAny_cons (kit_ty (h2 rfl)) (fun _ => kitAny_nil) (fun e => by cases e)
theorem kit_tup {K : PySem.W.Frag} : PySem.W.kitAny K (.type "tuple") [.type "list", .type "tuple"] = some true :=
  kitAny_cons (b := false) (kit_ty (by decide +kernel)) (fun _ => kitAny_cons (b := true) (kit_ty (by decide +kernel)) (fun e => by cases e) (fun _ => rfl)) (fun e => by cases e)
/-- zip of two tuples, walked to the end of the shorter -/
theorem zip_tuples {K : PySem.W.Frag} {a b : Addr} {xs ys : List V} (hl : xs.length = ys.length) : Walk (RZ.ItzT K a b) xs.length (fun H => SqT K H a xs ∧ SqT K H b ys) (YPair (fun i => xs[i]?) (fun i => ys[i]?)) where
  goes := fun i H lt both => ⟨xs, ys, xs[i], ys[i]'(by omega), both.1, both.2, List.getElem?_eq_getElem lt, List.getElem?_eq_getElem (by omega)⟩
  stops := fun H both => ⟨xs, ys, both.1, both.2, .inl (Nat.le_refl _)⟩
  yields := fun i H v H' _ both ⟨T, x, y, e, new, after, at_x, at_y⟩ => ⟨T, x, y, e, new, after, at_x xs both.1, at_y ys both.2⟩
def spOf (K : PySem.W.Frag) : Sp := fun vs H Q _ => ∃ (b l : Addr) (t : V) (xs : List V), vs = [.ref b, t] ∧ Bag H b l ∧
  ((∃ a, t = .ref a ∧ a ≠ b ∧ SqL K H a xs) ∨ (∃ z : Str, t = .str z ∧ z.length ≤ sizeLine ∧ xs = z.cps.toList.map sig)) ∧ 0 < xs.length ∧ xs.length < 1073741824 ∧ ∀ H' x, Kp b H H' → Bag H' b l → x ∈ xs → Q x H'
def spMixed (K : PySem.W.Frag) : Sp := fun vs H Q _ => ∃ (b l a : Addr) (xs : List V), vs = [.ref b, .ref a] ∧ Bag H b l ∧ a ≠ b ∧ SqL K H a xs ∧ xs.length ≤ 1000 ∧
  ∀ H' p ys, Kp b H H' → Bag H' b l → H p = none → H' p = some (.lst ys) → ys.Perm xs → Q (.ref p) H'
theorem erasePm {α : Type} : ∀ (l : List α) (i : Nat) (h : i < l.length), (l[i] :: l.eraseIdx i).Perm l
  | [], i, h => absurd h (Nat.not_lt_zero _)
  | x :: r, 0, h => .refl _
  | x :: r, i + 1, h => by
    have hr : i < r.length := Nat.lt_of_succ_lt_succ h
    show (r[i] :: x :: r.eraseIdx i).Perm (x :: r)
    exact (List.Perm.swap x _ _).trans ((erasePm r i hr).cons x)
theorem ifF {c : Bool} {A B : Prop} (h : c = false) (hb : B) : if c = true then A else B := by rw [h]; exact iteF hb
theorem ifT {c : Bool} {A B : Prop} (h : c = true) (ha : A) : if c = true then A else B := by rw [h]; exact iteT ha




/-! ### texts as lists of signs -/
def txt (cs : List Nat) : Str := ⟨cs.toArray⟩
theorem txt_len (cs : List Nat) : (txt cs).length = cs.length := by show cs.toArray.size = _; simp
theorem txt_cps (cs : List Nat) : (txt cs).cps.toList = cs := by show cs.toArray.toList = _; simp
theorem txt_of (z : Str) : txt z.cps.toList = z := by show (⟨z.cps.toList.toArray⟩ : Str) = z; simp
theorem txt_app (a b : List Nat) : txt a ++ txt b = txt (a ++ b) := by
  show (⟨a.toArray ++ b.toArray⟩ : Str) = ⟨(a ++ b).toArray⟩
  simp
theorem txt_inj {a b : List Nat} (h : txt a = txt b) : a = b := by rw [← txt_cps a, ← txt_cps b, h]
theorem txt_minus : Str.ofString "-" = txt [45] := by decide +kernel
theorem txt_empty : Str.ofString "" = txt [] := by decide +kernel
theorem sig_txt (c : Nat) : sig c = .str (txt [c]) := rfl
def lettersL : List Nat → List Nat
  | [] => []
  | c :: r => if c = 45 then r else c :: r
def signL : List Nat → Nat
  | [] => 0
  | c :: r => if c = 45 then 1 else 0
def signedL (t : Int) (cs : List Nat) : List Nat := if t % 2 = 1 then 45 :: cs else cs
theorem letters_len (ts : List Nat) : (lettersL ts).length + signL ts = ts.length := by
  cases ts with
  | nil => rfl
  | cons c r =>
    show (if c = 45 then r else c :: r).length + (if c = 45 then 1 else 0) = r.length + 1
    by_cases h : c = 45
    · rw [if_pos h, if_pos h]
    · rw [if_neg h, if_neg h, List.length_cons]
theorem remove_minus (ts : List Nat) : Txt.removeprefix (txt ts) (Str.ofString "-") = txt (lettersL ts) := by
  rw [txt_minus]
  unfold Txt.removeprefix
  cases ts with
  | nil => rfl
  | cons c r =>
    have e : Builtin.Str.subAt (txt (c :: r)) (txt [45]) 0 = decide (c = 45) := by
      unfold Builtin.Str.subAt
      show ((c :: r).toArray.extract 0 (0 + 1) == #[45]) = _
      have e2 : (c :: r).toArray.extract 0 (0 + 1) = #[c] := by simp
      rw [e2]
      by_cases h : c = 45
      · subst h; rfl
      · rw [decide_eq_false h]
        simp [h]
    rw [e]
    show _ = txt (if c = 45 then r else c :: r)
    by_cases h : c = 45
    · rw [decide_eq_true h, if_pos rfl, if_pos h]
      unfold Txt.affix
      have e3 : ((txt (c :: r)).length - (txt [45]).length == (txt (c :: r)).length) = false := by
        rw [txt_len, txt_len]
        simp
      show (if ((txt (c :: r)).length - (txt [45]).length == (txt (c :: r)).length) = true then _ else _) = _
      rw [e3, if_neg Bool.false_ne_true]
      show (⟨(c :: r).toArray.extract 1 (c :: r).toArray.size⟩ : Str) = ⟨r.toArray⟩
      simp
    · rw [decide_eq_false h, if_neg Bool.false_ne_true, if_neg h]
      rfl
theorem join_txt : ∀ (xs : List (List Nat)), Txt.join (Str.ofString "") (xs.map txt) = txt xs.flatten := by
  intro xs
  show Builtin.Str.glued _ _ = _
  rw [StrLaws.glued_eq_join, txt_empty]
  induction xs with
  | nil => rfl
  | cons x r ih =>
    cases r with
    | nil => show txt x = txt (x ++ []); rw [List.append_nil]
    | cons y r =>
      show txt x ++ txt [] ++ Str.join (txt []) ((y :: r).map txt) = _
      rw [ih, txt_app, txt_app, List.append_nil]
      rfl
theorem flat_ones (cs : List Nat) : (cs.map fun c => [c]).flatten = cs := by
  induction cs with
  | nil => rfl
  | cons c r ih => show c :: (r.map fun c => [c]).flatten = _; rw [ih]
theorem join_sigs (cs : List Nat) : Txt.join (Str.ofString "") (cs.map fun c => txt [c]) = txt cs := by
  have e : (cs.map fun c => txt [c]) = (cs.map fun c => [c]).map txt := by rw [List.map_map]; rfl
  rw [e, join_txt, flat_ones]
theorem len_ones (cs : List Nat) : ((cs.map fun c => txt [c]).map (·.length)).sum = cs.length := by
  induction cs with
  | nil => rfl
  | cons c r ih =>
    show (txt [c]).length + ((r.map fun c => txt [c]).map (·.length)).sum = _
    rw [ih, txt_len, List.length_cons]
    simp [Nat.add_comm]
/-- a word: its sign, its letters (none is the sign) -/
def wd (s : Bool) (cs : List Nat) : List Nat := if s then 45 :: cs else cs
def Lt (cs : List Nat) : Prop := ∀ c ∈ cs, c ≠ 45
theorem letters_wd {s : Bool} {cs : List Nat} (h : Lt cs) : lettersL (wd s cs) = cs := by
  cases s with
  | true => rfl
  | false =>
    cases cs with
    | nil => rfl
    | cons c r =>
      show (if c = 45 then r else c :: r) = c :: r
      rw [if_neg (h c List.mem_cons_self)]
theorem sign_wd {s : Bool} {cs : List Nat} (h : Lt cs) : signL (wd s cs) = s.toNat := by
  cases s with
  | true => rfl
  | false =>
    cases cs with
    | nil => rfl
    | cons c r =>
      show (if c = 45 then 1 else 0) = 0
      rw [if_neg (h c List.mem_cons_self)]
theorem signed_wd (t : Int) (cs : List Nat) : signedL t cs = wd (decide (t % 2 = 1)) cs := by
  unfold signedL wd
  by_cases h : t % 2 = 1
  · rw [if_pos h, decide_eq_true h]; rfl
  · rw [if_neg h, decide_eq_false h]; rfl
theorem wd_len (s : Bool) (cs : List Nat) : (wd s cs).length = cs.length + s.toNat := by cases s <;> rfl
def spLetters : Sp := fun vs H Q _ => ∃ ts : List Nat, vs = [.str (txt ts)] ∧ ts.length ≤ sizeLine ∧ Q (.str (txt (lettersL ts))) H
def spSignOf : Sp := fun vs H Q _ => ∃ ts : List Nat, vs = [.str (txt ts)] ∧ ts.length ≤ sizeLine ∧ Q (.int (signL ts)) H
def spSigned : Sp := fun vs H Q _ => ∃ (t : Int) (cs : List Nat), vs = [.int t, .str (txt cs)] ∧ cs.length < sizeLine ∧ Q (.str (txt (signedL t cs))) H

/-! ### cancelling -/
def stp (rs : List Nat) (c : Nat) : List Nat := match rs with
  | [] => [c]
  | d :: r => if d = c then r else c :: d :: r
def noAdj : List Nat → Prop
  | a :: b :: r => a ≠ b ∧ noAdj (b :: r)
  | _ => True
theorem noAdj.tail {a : Nat} {r : List Nat} (h : noAdj (a :: r)) : noAdj r := by
  cases r with
  | nil => trivial
  | cons b r => exact h.2
theorem stp_noAdj {rs : List Nat} (c : Nat) (h : noAdj rs) : noAdj (stp rs c) := by
  cases rs with
  | nil => trivial
  | cons d r =>
    unfold stp
    dsimp only
    by_cases e : d = c
    · rw [if_pos e]; exact h.tail
    · rw [if_neg e]; exact ⟨fun z => e z.symm, h⟩
theorem stp_stp {rs : List Nat} (c : Nat) (h : noAdj rs) : stp (stp rs c) c = rs := by
  cases rs with
  | nil => show (if c = c then [] else _) = _; rw [if_pos rfl]
  | cons d r =>
    by_cases e : d = c
    · subst e
      have e1 : stp (d :: r) d = r := if_pos rfl
      rw [e1]
      cases r with
      | nil => rfl
      | cons b r =>
        show (if b = d then r else d :: b :: r) = _
        rw [if_neg (fun z => h.1 z.symm)]
    · have e1 : stp (d :: r) c = c :: d :: r := if_neg e
      rw [e1]
      show (if c = c then d :: r else _) = _
      rw [if_pos rfl]
def redR (cs : List Nat) : List Nat := cs.foldl stp []
def redL (cs : List Nat) : List Nat := (redR cs).reverse
theorem fold_noAdj : ∀ (cs rs : List Nat), noAdj rs → noAdj (cs.foldl stp rs)
  | [], _, h => h
  | c :: r, rs, h => fold_noAdj r (stp rs c) (stp_noAdj c h)
theorem redR_snoc (cs : List Nat) (c : Nat) : redR (cs ++ [c]) = stp (redR cs) c := by
  unfold redR
  rw [List.foldl_append]
  rfl
theorem red_cancel (a b : List Nat) (c : Nat) : redL (a ++ c :: c :: b) = redL (a ++ b) := by
  unfold redL redR
  rw [List.foldl_append, List.foldl_append]
  show (b.foldl stp (stp (stp (a.foldl stp []) c) c)).reverse = _
  rw [stp_stp c (fold_noAdj a [] trivial)]
theorem stp_mem {rs : List Nat} {c x : Nat} (h : x ∈ stp rs c) : x = c ∨ x ∈ rs := by
  cases rs with
  | nil => exact .inl (List.mem_singleton.mp h)
  | cons d r =>
    by_cases e : d = c
    · have e1 : stp (d :: r) c = r := if_pos e
      rw [e1] at h
      exact .inr (List.mem_cons_of_mem _ h)
    · have e1 : stp (d :: r) c = c :: d :: r := if_neg e
      rw [e1] at h
      exact (List.mem_cons.mp h)
theorem stp_len (rs : List Nat) (c : Nat) : (stp rs c).length ≤ rs.length + 1 := by
  cases rs with
  | nil => exact Nat.le_refl _
  | cons d r =>
    by_cases e : d = c
    · have e1 : stp (d :: r) c = r := if_pos e
      rw [e1, List.length_cons]; omega
    · have e1 : stp (d :: r) c = c :: d :: r := if_neg e
      rw [e1]; exact Nat.le_refl _
def still (cs : List Nat) : Prop := ∀ (i : Nat) (a b : Nat), cs[i]? = some a → cs[i + 1]? = some b → a ≠ b
theorem redR_take {cs : List Nat} (h : still cs) : ∀ k, k ≤ cs.length → redR (cs.take k) = (cs.take k).reverse
  | 0, _ => rfl
  | k + 1, hk => by
    have hk1 : k < cs.length := hk
    rw [List.take_succ_eq_append_getElem hk1, redR_snoc, redR_take h k (by omega), List.reverse_append]
    cases k with
    | zero => rfl
    | succ j =>
      have hj : j < cs.length := by omega
      rw [List.take_succ_eq_append_getElem hj, List.reverse_append]
      show (if cs[j] = cs[j + 1] then _ else cs[j + 1] :: cs[j] :: (cs.take j).reverse) = cs[j + 1] :: cs[j] :: (cs.take j).reverse
      rw [if_neg (h j _ _ (List.getElem?_eq_getElem hj) (List.getElem?_eq_getElem hk1))]
theorem red_still {cs : List Nat} (h : still cs) : redL cs = cs := by
  have e := redR_take h cs.length (Nat.le_refl _)
  rw [List.take_length] at e
  unfold redL
  rw [e, List.reverse_reverse]
theorem redR_len (cs : List Nat) : (redR cs).length ≤ cs.length := by
  have : ∀ (cs rs : List Nat), (cs.foldl stp rs).length ≤ rs.length + cs.length := by
    intro cs
    induction cs with
    | nil => intro rs; exact Nat.le_refl _
    | cons c r ih =>
      intro rs
      have h1 := ih (stp rs c)
      have h2 := stp_len rs c
      show (r.foldl stp (stp rs c)).length ≤ rs.length + (r.length + 1)
      omega
  have h := this cs []
  rw [List.length_nil, Nat.zero_add] at h
  exact h
def spReduced : Sp := fun vs H Q _ => ∃ ts : List Nat, vs = [.str (txt ts)] ∧ ts.length ≤ 1000 ∧ ∀ H', Same H H' → Q (.str (txt (signedL (signL ts) (redL (lettersL ts))))) H'

/-! ### slices of texts; lists of ints as data -/
theorem cutS_take (cs : List Nat) (k : Nat) : cutS (txt cs) none (some (k : Int)) = txt (cs.take k) := by
  unfold cutS
  rw [txt_cps, HT.sIx_none, HT.sIx_nat, txt_len]
  show txt _ = txt _
  congr 1
  rw [List.drop_zero, Nat.sub_zero]
  by_cases h : k ≤ cs.length
  · rw [Nat.min_eq_left h]
  · rw [Nat.min_eq_right (by omega), List.take_length, List.take_of_length_le (by omega)]
theorem cutS_drop (cs : List Nat) (k : Nat) : cutS (txt cs) (some (k : Int)) none = txt (cs.drop k) := by
  unfold cutS
  rw [txt_cps, HT.sIx_none, HT.sIx_nat, txt_len]
  show txt _ = txt _
  congr 1
  by_cases h : k ≤ cs.length
  · rw [Nat.min_eq_left h]
    exact List.take_of_length_le (by rw [List.length_drop]; exact Nat.le_refl _)
  · rw [Nat.min_eq_right (by omega), List.drop_of_length_le (Nat.le_refl _), List.drop_of_length_le (l := cs) (by omega)]
    exact List.take_nil
theorem cutV_take (xs : List V) (k : Nat) : cutV xs none (some (k : Int)) = xs.take k := by
  unfold cutV
  rw [HT.sIx_none, HT.sIx_nat, List.drop_zero, Nat.sub_zero]
  by_cases h : k ≤ xs.length
  · rw [Nat.min_eq_left h]
  · rw [Nat.min_eq_right (by omega), List.take_length, List.take_of_length_le (by omega)]
theorem dp_ints {K : PySem.W.Frag} {H : Hp} : ∀ ns : List Int, DpAll K H (ns.map V.int) (ns.map PyData.int)
  | [] => .nil
  | n :: r => .cons (.int n) (dp_ints r)
theorem shaped_ints' (ns : List Int) : SeqAt.shaped (.list (ns.map PyData.int)) = true := PySem.W.ke_shaped_ints ns
theorem signed_wd0 {s : Bool} (cs : List Nat) : signedL ((s.toNat : Nat) : Int) cs = wd s cs := by cases s <;> rfl
def spLSigned : Sp := spSigned
def spLets : Sp := fun vs H Q _ => vs = [] ∧ Q (.str (Str.ofString "abcdefghijklmnopqrstuvwx")) H
def alpha : List Nat := [97, 98, 99, 100, 101, 102, 103, 104, 105, 106, 107, 108, 109, 110, 111, 112, 113, 114, 115, 116, 117, 118, 119, 120]
theorem txt_alpha : Str.ofString "abcdefghijklmnopqrstuvwx" = txt alpha := by decide +kernel
theorem alpha_lt {c : Nat} (h : c ∈ alpha) : c ≠ 45 := by
  intro e
  subst e
  exact absurd h (by decide)
theorem perm_sigs {ys : List V} {cs : List Nat} (h : ys.Perm (cs.map sig)) : ∃ ds : List Nat, ys = ds.map sig ∧ ds.Perm cs := by
  refine ⟨ys.map (fun v => match v with | .str z => z.cps.toList.headD 0 | _ => 0), ?_, ?_⟩
  · rw [List.map_map]
    have : ∀ y ∈ ys, (sig ∘ fun v => match v with | .str z => z.cps.toList.headD 0 | _ => 0) y = y := by
      intro y hy
      obtain ⟨c, _, rfl⟩ := List.mem_map.mp (h.mem_iff.mp hy)
      rfl
    rw [List.map_congr_left this, List.map_id']
  · have h2 := h.map (fun v => match v with | .str z => z.cps.toList.headD 0 | _ => 0)
    rw [List.map_map] at h2
    have e : ((fun v => match v with | V.str z => z.cps.toList.headD 0 | _ => 0) ∘ sig) = id := by funext c; rfl
    rw [e, List.map_id] at h2
    exact h2
def spLaw (K : PySem.W.Frag) : Sp := fun vs H Q _ => ∃ (a : Addr) (ns : List Int), vs = [.ref a] ∧ SqL K H a (ns.map V.int) ∧ ns.length ≤ 63 ∧ ∀ H', Q (.bl true) H'
end Tm

/-! The drawn webs of the laws: their data. -/
namespace Tm
open PySem PySem.Spec PyProof.Rows L2

/-! ### what a drawn web is: marks by node, ends by letter -/
def marksK (ms : List (Int × Int)) : List (Key × V) := ms.map fun m => (Sum.inl m.1, V.int m.2)
/-- letter, address of its pair, lesser end, greater end -/
structure Edg where
  letter : Nat
  pair : Addr
  lo : Int
  hi : Int
def endsK (es : List Edg) : List (Key × V) := es.map fun e => (Sum.inr (txt [e.letter]), V.ref e.pair)
structure RawOk (H : Hp) (ms : List (Int × Int)) (es : List Edg) : Prop where
  rise : (ms.map (·.1)).Pairwise (· < ·)
  node : ∀ m ∈ ms, 0 ≤ m.1 ∧ m.1 < 12
  mark : ∀ m ∈ ms, m.2 = 0 ∨ m.2 = 1
  risE : (es.map (·.letter)).Pairwise (· < ·)
  name : ∀ e ∈ es, e.letter ∈ alpha
  pair : ∀ e ∈ es, H e.pair = some (.tup [.int e.lo, .int e.hi])
  less : ∀ e ∈ es, e.lo < e.hi
  ends : ∀ e ∈ es, e.lo ∈ ms.map (·.1) ∧ e.hi ∈ ms.map (·.1)
/-- a drawn web: a tuple of two dicts -/
def RawAt (H : Hp) (t : Addr) (ms : List (Int × Int)) (es : List Edg) : Prop :=
  ∃ dm de : Addr, H t = some (.tup [.ref dm, .ref de]) ∧ H dm = some (.dK (marksK ms)) ∧ H de = some (.dK (endsK es)) ∧ RawOk H ms es
def spRaw : Sp := fun vs H Q _ => ∃ (b l : Addr) (wide many : Int), vs = [.ref b, .int wide, .int many] ∧ Bag H b l ∧ 0 ≤ wide ∧ wide ≤ 12 ∧ 0 ≤ many ∧ many ≤ 24 ∧
  ∀ H' t ms es, Kp b H H' → Bag H' b l → RawAt H' t ms es → Q (.ref t) H'

/-! ### rising lists -/
theorem rise_lt {ns : List Int} (h : ns.Pairwise (· ≤ ·)) (nd : ns.Nodup) : ns.Pairwise (· < ·) := by
  induction ns with
  | nil => exact .nil
  | cons n r ih =>
    rcases List.pairwise_cons.mp h with ⟨h1, h2⟩
    rcases List.nodup_cons.mp nd with ⟨n1, n2⟩
    refine List.pairwise_cons.mpr ⟨fun m hm => ?_, ih h2 n2⟩
    have a := h1 m hm
    have c : n ≠ m := fun e => n1 (e ▸ hm)
    omega
theorem rise_get {ns : List Int} (h : ns.Pairwise (· < ·)) {i j : Nat} (hi : i < ns.length) (hj : j < ns.length) (hij : i < j) : ns[i] < ns[j] := List.pairwise_iff_getElem.mp h i j hi hj hij
/-- merging pairs with new keys only appends them -/
theorem valV_fresh {kvs : List (Key × V)} {k : Key} (h : k ∉ kvs.map (·.1)) : valV kvs k = none := by
  induction kvs with
  | nil => rfl
  | cons p r ih =>
    have h1 : ¬ p.1 = k := fun e => h (by rw [List.map_cons, e]; exact List.mem_cons_self)
    rw [valV_neg h1]
    exact ih fun m => h (by rw [List.map_cons]; exact List.mem_cons_of_mem _ m)
theorem merge_fresh : ∀ (more kvs : List (Key × V)), ((kvs ++ more).map (·.1)).Nodup → mergeK kvs more = kvs ++ more
  | [], kvs, _ => (List.append_nil kvs).symm
  | p :: r, kvs, h => by
    have h0 : p.1 ∉ kvs.map (·.1) := fun m => by
      rw [List.map_append, List.map_cons] at h
      exact (List.nodup_append.mp h).2.2 _ m _ List.mem_cons_self rfl
    have e : kvs ++ p :: r = (kvs ++ [p]) ++ r := by rw [List.append_assoc]; rfl
    show mergeK (putK kvs p.1 p.2) r = _
    rw [putK_new p.2 (valV_fresh h0)]
    show mergeK (kvs ++ [p]) r = _
    rw [e] at h ⊢
    exact merge_fresh r (kvs ++ [p]) h

/-! ### letters in their order -/
theorem up_letters : ∀ (cs : List Nat) (c : Nat), risingS (txt [c]) (cs.map fun d => txt [d]) = true → (c :: cs).Pairwise (· ≤ ·)
  | [], c, _ => List.pairwise_singleton _ _
  | d :: r, c, h => by
    have h' : (!ltCps [d] [c] && risingS (txt [d]) (r.map fun e => txt [e])) = true := h
    rcases Bool.and_eq_true_iff.mp h' with ⟨g1, g2⟩
    have rest := up_letters r d g2
    have cd : c ≤ d := by
      have g3 : ltCps [d] [c] = false := by simpa using g1
      have g4 : (decide (d < c) || (d == c && ltCps [] [])) = false := g3
      have g5 : decide (d < c) = false := (Bool.or_eq_false_iff.mp g4).1
      have g6 := of_decide_eq_false g5
      omega
    refine List.pairwise_cons.mpr ⟨fun e he => ?_, rest⟩
    rcases List.mem_cons.mp he with q | q
    · omega
    · exact Nat.le_trans cd ((List.pairwise_cons.mp rest).1 e q)
theorem letters_rise {cs : List Nat} (h : sortedS (cs.map fun d => txt [d]) = true) (nd : cs.Nodup) : cs.Pairwise (· < ·) := by
  have up : cs.Pairwise (· ≤ ·) := by
    cases cs with
    | nil => exact .nil
    | cons c r => exact up_letters r c h
  refine up.imp_of_mem (fun {a b} ha hb hab => hab) |>.and nd |>.imp fun {a b} hab => ?_
  have := hab.1
  have := hab.2
  omega
theorem perm_letters {ys : List Str} {cs : List Nat} (h : ys.Perm (cs.map fun d => txt [d])) : ∃ ds : List Nat, ys = ds.map (fun d => txt [d]) ∧ ds.Perm cs := by
  refine ⟨ys.map fun y => y.cps.toList.headD 0, ?_, ?_⟩
  · have back : ∀ y ∈ ys, txt [y.cps.toList.headD 0] = y := fun y hy => by
      obtain ⟨c, _, rfl⟩ := List.mem_map.mp (h.mem_iff.mp hy)
      rfl
    rw [List.map_map]
    exact ((List.map_congr_left back).trans (List.map_id' ys)).symm
  · have h2 := h.map fun y => y.cps.toList.headD 0
    rw [List.map_map] at h2
    have e : ((fun y : Str => y.cps.toList.headD 0) ∘ fun d => txt [d]) = id := funext fun c => rfl
    rw [e, List.map_id] at h2
    exact h2
theorem perm_ints {ys : List V} {ns : List Int} (h : ys.Perm (ns.map V.int)) : ∃ ks : List Int, ys = ks.map V.int ∧ ks.Perm ns := by
  refine ⟨ys.map fun y => match y with | .int i => i | _ => 0, ?_, ?_⟩
  · have back : ∀ y ∈ ys, V.int (match y with | .int i => i | _ => 0) = y := fun y hy => by
      obtain ⟨c, _, rfl⟩ := List.mem_map.mp (h.mem_iff.mp hy)
      rfl
    rw [List.map_map]
    exact ((List.map_congr_left back).trans (List.map_id' ys)).symm
  · have h2 := h.map fun y => match y with | V.int i => i | _ => 0
    rw [List.map_map] at h2
    have e : ((fun y : V => match y with | .int i => i | _ => 0) ∘ V.int) = id := funext fun c => rfl
    rw [e, List.map_id] at h2
    exact h2
def twelve : List Int := [0, 1, 2, 3, 4, 5, 6, 7, 8, 9, 10, 11]
theorem rg12 : rgV 0 12 = twelve.map V.int := rfl
theorem twelve_mem {n : Int} (h : n ∈ twelve) : 0 ≤ n ∧ n < 12 := by
  simp only [twelve, List.mem_cons, List.not_mem_nil, or_false] at h
  omega
theorem alpha_nodup : alpha.Nodup := by decide
theorem twelve_nodup : twelve.Nodup := by decide
theorem gname {i : Nat} {v : V} {σ : L2.St} {H : Hp} {Q : L2.St → Hp → Prop} (h : Q (σ.set i (some v)) H) : gName i v σ H Q := h

/-! ### what the checks of a web promise, of a web that is one -/
def MarksOk (ms : List (Int × Int)) : Prop := (ms.map (·.1)).Nodup ∧ ms.length < 64 ∧ (∀ m ∈ ms, 0 ≤ m.1 ∧ m.1 < 12) ∧ ∀ m ∈ ms, m.2 = 0 ∨ m.2 = 1
/-- letter, address, and the two ends as they stand in the pair -/
def EdgesOk (H : Hp) (ms : List (Int × Int)) (es : List Edg) : Prop := (es.map (·.letter)).Nodup ∧ es.length < 64 ∧ (∀ e ∈ es, e.letter ∈ alpha) ∧
  ∀ e ∈ es, H e.pair = some (.tup [.int e.lo, .int e.hi]) ∧ e.lo ≠ e.hi ∧ e.lo ∈ ms.map (·.1) ∧ e.hi ∈ ms.map (·.1)
theorem EdgesOk.same {H H' : Hp} {ms : List (Int × Int)} {es : List Edg} (h : EdgesOk H ms es) (s : Same H H') : EdgesOk H' ms es :=
  ⟨h.1, h.2.1, h.2.2.1, fun e he => ⟨s _ _ (h.2.2.2 e he).1, (h.2.2.2 e he).2⟩⟩
def spIsNode : Sp := fun vs H Q _ => ∃ n : Int, vs = [.int n] ∧ 0 ≤ n ∧ n < 12 ∧ Q (.bl true) H
def spIsMark : Sp := fun vs H Q _ => ∃ n : Int, vs = [.int n] ∧ (n = 0 ∨ n = 1) ∧ ∀ H', Same H H' → Q (.bl true) H'
def spIsName : Sp := fun vs H Q _ => ∃ c : Nat, vs = [.str (txt [c])] ∧ c ∈ alpha ∧ Q (.bl true) H
def spJoins : Sp := fun vs H Q _ => ∃ (dm p : Addr) (ms : List (Int × Int)) (x y : Int), vs = [.ref dm, .ref p] ∧ H dm = some (.dK (marksK ms)) ∧ H p = some (.tup [.int x, .int y]) ∧ x ≠ y ∧ x ∈ ms.map (·.1) ∧ y ∈ ms.map (·.1) ∧ Q (.bl true) H
def spChkM : Sp := fun vs H Q _ => ∃ (dm : Addr) (ms : List (Int × Int)), vs = [.ref dm] ∧ H dm = some (.dK (marksK ms)) ∧ MarksOk ms ∧ ∀ H', Same H H' → Q .non H'
def spChkE : Sp := fun vs H Q _ => ∃ (dm de : Addr) (ms : List (Int × Int)) (es : List Edg), vs = [.ref dm, .ref de] ∧ H dm = some (.dK (marksK ms)) ∧ H de = some (.dK (endsK es)) ∧ EdgesOk H ms es ∧ ∀ H', Same H H' → Q .non H'
theorem keysM (ms : List (Int × Int)) : (marksK ms).map (·.1) = (ms.map (·.1)).map Sum.inl := by
  unfold marksK
  rw [List.map_map, List.map_map]
  rfl
theorem keysE (es : List Edg) : (endsK es).map (·.1) = (es.map fun e => txt [e.letter]).map Sum.inr := by
  unfold endsK
  rw [List.map_map, List.map_map]
  rfl
/-- what a dict gives under a key that it has once -/
theorem valV_mem {kvs : List (Key × V)} {k : Key} {v : V} (nd : (kvs.map (·.1)).Nodup) (h : (k, v) ∈ kvs) : valV kvs k = some v := by
  induction kvs with
  | nil => cases h
  | cons p r ih =>
    rw [List.map_cons] at nd
    rcases List.nodup_cons.mp nd with ⟨n1, n2⟩
    rcases List.mem_cons.mp h with e | e
    · subst e
      exact valV_pos rfl
    · have ne : ¬ p.1 = k := fun z => n1 (by rw [z]; exact List.mem_map.mpr ⟨(k, v), e, rfl⟩)
      rw [valV_neg ne]
      exact ih n2 e
theorem mark_at {ms : List (Int × Int)} (nd : (ms.map (·.1)).Nodup) {n x : Int} (h : (n, x) ∈ ms) : valV (marksK ms) (Sum.inl n) = some (.int x) := by
  refine valV_mem ?_ (List.mem_map.mpr ⟨(n, x), h, rfl⟩)
  rw [keysM]
  exact List.pairwise_map.mpr (nd.imp fun hac he => hac (Sum.inl.inj he))
theorem mark_some {ms : List (Int × Int)} {n : Int} (h : n ∈ ms.map (·.1)) : ∃ v, valV (marksK ms) (Sum.inl n) = some v := by
  induction ms with
  | nil => cases h
  | cons m r ih =>
    by_cases e : m.1 = n
    · exact ⟨_, valV_pos (p := ((Sum.inl m.1 : Key), V.int m.2)) (congrArg Sum.inl e)⟩
    · rw [List.map_cons] at h
      rcases List.mem_cons.mp h with q | q
      · exact absurd q.symm e
      · obtain ⟨v, hv⟩ := ih q
        refine ⟨v, ?_⟩
        have ne : ¬ ((Sum.inl m.1 : Key) = Sum.inl n) := fun z => e (Sum.inl.inj z)
        show valV (((Sum.inl m.1 : Key), V.int m.2) :: marksK r) (Sum.inl n) = some v
        rw [valV_neg (p := ((Sum.inl m.1 : Key), V.int m.2)) ne]
        exact hv
theorem end_at {es : List Edg} (nd : (es.map (·.letter)).Nodup) {e : Edg} (h : e ∈ es) : valV (endsK es) (Sum.inr (txt [e.letter])) = some (.ref e.pair) := by
  refine valV_mem ?_ (List.mem_map.mpr ⟨e, h, rfl⟩)
  have q : (endsK es).map (·.1) = (es.map (·.letter)).map fun c => (Sum.inr (txt [c]) : Key) := by
    unfold endsK
    rw [List.map_map, List.map_map]
    rfl
  rw [q]
  exact List.pairwise_map.mpr (nd.imp fun hac he => hac (List.head_eq_of_cons_eq (txt_inj (Sum.inr.inj he))))
end Tm

/-! sorted(t), t a tuple of whole numbers: collect, a new list, its sort. -/
namespace Tm
open PySem PySem.Spec PySem.Calls PyProof.Rows L2
theorem call_sortedTup {X : Cx} : CallR X (.builtin "sorted") (fun given H Q => ∃ (t : Addr) (ns : List Int), given = [.ref t] ∧ SqT X.K H t (ns.map V.int) ∧ ns.length < 64 ∧
    ∀ (up : List Int) (p : Addr), up.Perm ns → up.Pairwise (· ≤ ·) → H p = none → Q (.ref p) (upd H p (.lst (up.map V.int)))) :=
  fun pins s σ H given held Q inv rel ask => by
    rcases ask with ⟨t, ns, rfl, stands, few, hand⟩
    match held, rel with
    | [_], .cons rfl .nil =>
      obtain ⟨cells, same, ⟨ob, got, isTup, ver, dat⟩, _⟩ := inv.tuple stands
      have num : cells.length = ns.length := by rw [← same.length, List.length_map]
      have room : cells.length ≤ sizeLine := by rw [num]; exact small64 few
      apply call_function_entry kind_sorted plain_sorted entry_sorted (args_sorted1 _)
      show wpAny _ _ (collect (.ref t) >>= fun vs => newList vs >>= fun l => holding [l] (call (.builtin "list.sort") [l] []) >>= fun _ => ret l) _ _ s
      apply wpAny_bind
      apply wpAny_collect_seq t (.inr rfl) got isTup dat (hsz := by rw [List.size_toArray]; exact room)
      intro heap kept
      have mid : Inv X pins σ H { s with heap := heap } := inv.kept (t' := s.toks) kept
      apply wpAny_bind
      apply wpAny_newList (hsz := by simpa using room)
      have new : (heap.push { cls := .type "list", data := .seq (cells.toArray.toList).toArray }).get? heap.objs.size = some (seqObj "list" cells.toArray 0) := Heap.get?_push_size _ rfl
      have still : ∀ b o, heap.get? b = some o → (heap.push { cls := .type "list", data := .seq (cells.toArray.toList).toArray }).get? b = some o := fun b o e => Heap.get?_push_of_some _ e
      have bigger : heap.objs.size < (heap.push { cls := .type "list", data := .seq (cells.toArray.toList).toArray }).objs.size := Heap.lt_size new
      apply wpAny_bind
      apply wpAny_holding
      refine wpAny_call_entry (T := "list") slot_list_sort ⟨_, new, rfl⟩ entry_list_sort ?_ (args_list_sort _)
      refine list_sort_tree new (Vals.ints same) (by rw [num]; exact few) fun out up whole perm rise => ?_
      refine ⟨_, rfl, wpAny_pure ⟨_, rfl, V.ref heap.objs.size, upd H heap.objs.size (.lst (up.map V.int)), ?_, rfl, hand up _ perm rise (mid.hok.fresh (Nat.le_refl _))⟩⟩
      obtain ⟨stamp, there⟩ := sortedHeap_at (out := out) new
      refine mid.laid (t' := s.toks) (fun b o e => ?_) (Nat.le_refl _) ⟨?_, out.toList, stamp, vals_of_ints whole, there⟩
      · rw [sortedHeap_old (Nat.ne_of_lt (Heap.lt_size e)) (Nat.lt_trans (Heap.lt_size e) bigger)]
        exact still b o e
      · rw [List.length_map, perm.length_eq]
        exact small64 few
end Tm

/-! Webs as they stand in memory. -/
namespace Tm
open PySem PySem.Spec PyProof.Rows L2

/-- a dict comprehension over anything that is walked: the reading of one whose walk J stands already -/
theorem dc_walk {J : It} {n : Nat} {G : Hp → Prop} {Y : Nat → Hp → V → Hp → Prop} (w : Walk J n G Y) {g : TG} {tt : TT} {tk tv : TE} {vs : List Nat} {σ : L2.St} {H1 : Hp} {Q : VK} (Pv : Addr → Nat → Hp → Prop)
    (start : ∀ D, H1 D = none → Pv D 0 (upd H1 D (.dK []))) (hG : ∀ D i H, i ≤ n → Pv D i H → G H)
    (turn : ∀ D i x H H', H1 D = none → i < n → Pv D i H → Y i H x H' → g x (wipe σ vs) H' fun σ2 H2 => wipe σ2 vs = wipe σ vs ∧ tt σ2 H2 fun b H3 => if b = true then (tk σ2 H3 fun y H4 => tv σ2 H4 fun z H5 =>
      ∃ kvs k, y = kV k ∧ H5 D = some (.dK kvs) ∧ kvs.length < sizeLine ∧ Pv D (i + 1) (upd H5 D (.dK (putK kvs k z)))) else Pv D (i + 1) H3)
    (done : ∀ D H, H1 D = none → Pv D n H → Q (.ref D) H) : tDc (fun _ H R => R J H) g tt tk tv vs σ H1 Q := by
  intro D fresh
  refine ⟨fun i m H => i + m = n ∧ Pv D i H, ⟨n, Nat.zero_add n, start D fresh⟩, ?_⟩
  intro i m H here
  cases m with
  | zero =>
    have last : i = n := here.1
    subst last
    exact .inl ⟨w.stops H (hG D i H (Nat.le_refl i) here.2), done D H fresh here.2⟩
  | succ k =>
    have lt : i < n := by have := here.1; omega
    have g0 := hG D i H (Nat.le_of_lt lt) here.2
    exact .inr ⟨w.goes i H lt g0, Pv D (i + 1), fun H' p => ⟨k, Nat.lt_succ_self k, by have := here.1; omega, p⟩, fun x H' y => turn D i x H H' fresh lt here.2 (w.yields i H x H' lt g0 y)⟩

/-! ### the fields -/
theorem ne_mp : ¬ (("marks" : Str) = "pairs") := by decide +kernel
theorem ne_ms : ¬ (("marks" : Str) = "stars") := by decide +kernel
theorem ne_ps : ¬ (("pairs" : Str) = "stars") := by decide +kernel
def webF (a1 a2 a3 : Addr) : List (Str × V) := putF "stars" (.ref a3) (putF "pairs" (.ref a2) (putF "marks" (.ref a1) []))
theorem webF_marks (a1 a2 a3 : Addr) : (webF a1 a2 a3).lookup ("marks" : Str) = some (.ref a1) := by
  unfold webF
  rw [lookup_putF, if_neg ne_ms, lookup_putF, if_neg ne_mp, lookup_putF, if_pos rfl]
theorem webF_pairs (a1 a2 a3 : Addr) : (webF a1 a2 a3).lookup ("pairs" : Str) = some (.ref a2) := by
  unfold webF
  rw [lookup_putF, if_neg ne_ps, lookup_putF, if_pos rfl]
theorem webF_stars (a1 a2 a3 : Addr) : (webF a1 a2 a3).lookup ("stars" : Str) = some (.ref a3) := by
  unfold webF
  rw [lookup_putF, if_pos rfl]
/-- the letters of the edges at a node -/
def star (es : List Edg) (n : Int) : List Nat := (es.filter fun e => decide (e.lo = n ∨ e.hi = n)).map (·.letter)
def starsK (ms : List (Int × Int)) (es : List Edg) : List (Key × V) := ms.map fun m => (Sum.inl m.1, V.str (txt (star es m.1)))
def WebAt (C : Addr) (H : Hp) (x : Addr) (ms : List (Int × Int)) (es : List Edg) : Prop :=
  ∃ dx a1 a2 a3 : Addr, H x = some (.ins C dx (webF a1 a2 a3)) ∧ H a1 = some (.dK (marksK ms)) ∧ H a2 = some (.dK (endsK es)) ∧ H a3 = some (.dK (starsK ms es)) ∧ RawOk H ms es
/-- what a web made of these dicts holds: the same nodes and marks, the same edges, each pair rising -/
def Made (ms ms' : List (Int × Int)) (es es' : List Edg) : Prop :=
  ms'.Perm ms ∧ (es'.map fun e => (e.letter, e.lo, e.hi)).Perm (es.map fun e => (e.letter, min e.lo e.hi, max e.lo e.hi))
def spWInit (C : Addr) : Sp := fun vs H Q _ => ∃ (x dx dm de : Addr) (ms : List (Int × Int)) (es : List Edg), vs = [.ref x, .ref dm, .ref de] ∧ H x = some (.ins C dx []) ∧ H dm = some (.dK (marksK ms)) ∧ H de = some (.dK (endsK es)) ∧
  MarksOk ms ∧ EdgesOk H ms es ∧ ∀ H' ms' es', Kp x H H' → WebAt C H' x ms' es' → Made ms ms' es es' → Q .non H'

/-! ### tuple(list) and sorted(tuple) of things that stand in the heap: rules that name no written part -/
theorem tupNew {X : Cx} : CallR X (.type "tuple") (fun given H Q => ∃ p ys, given = [.ref p] ∧ H p = some (.lst ys) ∧ ∀ l, H l = none → Q (.ref l) (upd H l (.tup ys))) :=
  fun pins s σ H given held Q inv rel ask => by
    obtain ⟨p, ys, e, hp, q⟩ := ask
    exact call_tuple_of pins s σ H given held Q inv rel ⟨p, ys, e, .inl ⟨SqL.of hp, q⟩⟩
theorem sortPair {X : Cx} : CallR X (.builtin "sorted") (fun given H Q => ∃ (t : Addr) (i j : Int), given = [.ref t] ∧ H t = some (.tup [.int i, .int j]) ∧ ∀ l, H l = none → Q (.ref l) (upd H l (.lst [.int (min i j), .int (max i j)]))) :=
  fun pins s σ H given held Q inv rel ask => by
    obtain ⟨t, i, j, e, ht, q⟩ := ask
    refine call_sortedTup pins s σ H given held Q inv rel ⟨t, [i, j], e, .inl (.inl ht), by show 2 < 64; decide, fun up l perm rise fresh => ?_⟩
    have two : up = [min i j, max i j] := by
      have len : up.length = 2 := perm.length_eq
      match up, len with
      | [a, b], _ =>
        have le : a ≤ b := (List.pairwise_cons.mp rise).1 b List.mem_cons_self
        have ma : a ∈ [i, j] := perm.mem_iff.mp List.mem_cons_self
        have mi : i ∈ [a, b] := perm.mem_iff.mpr List.mem_cons_self
        have mj : j ∈ [a, b] := perm.mem_iff.mpr (List.mem_cons_of_mem _ List.mem_cons_self)
        have mb : b ∈ [i, j] := perm.mem_iff.mp (List.mem_cons_of_mem _ List.mem_cons_self)
        simp only [List.mem_cons, List.not_mem_nil, or_false] at ma mi mj mb
        have e1 : a = min i j := by omega
        have e2 : b = max i j := by omega
        rw [e1, e2]
    rw [two]
    exact q l fresh

/-! ### self.f = {.. for .. in ..} -/
theorem fld_dc {K : PySem.W.Frag} {wi : TI} {g : TG} {tt : TT} {tk tv : TE} {vs : List Nat} {f : Str} {D : Ends} {σ : L2.St} {H : Hp} {ta : TE} (S : It → Hp → Prop) (walks : ∀ R : It → Hp → Prop, (∀ J H1, S J H1 → R J H1) → wi σ H R)
    (body : ∀ J H1, S J H1 → tDc (fun _ Hs R => R J Hs) g tt tk tv vs σ H1 (fun y Hy => sFld K ta (fun _ _ R => R y Hy) f D σ Hy)) : sFld K ta (tDc wi g tt tk tv vs) f D σ H := walks _ body

/-! ### arrangements -/
/-- an arrangement of the images comes of an arrangement -/
theorem perm_lift {α β : Type} (f : α → β) : ∀ (ks : List β) (l : List α), ks.Perm (l.map f) → ∃ l' : List α, l'.Perm l ∧ l'.map f = ks
  | [], l, h => by
    have e : l.map f = [] := List.perm_nil.mp h.symm
    have e2 : l = [] := List.map_eq_nil_iff.mp e
    exact ⟨[], by rw [e2], rfl⟩
  | k :: r, l, h => by
    have hk : k ∈ l.map f := h.mem_iff.mp List.mem_cons_self
    obtain ⟨a, ha, rfl⟩ := List.mem_map.mp hk
    obtain ⟨u, w, rfl⟩ := List.append_of_mem ha
    have move : (u ++ a :: w).Perm (a :: (u ++ w)) := List.perm_middle
    have rest : r.Perm ((u ++ w).map f) := by
      have h2 : (f a :: r).Perm (f a :: (u ++ w).map f) := h.trans (move.map f)
      exact (List.perm_cons (f a)).mp h2
    obtain ⟨l', p, e⟩ := perm_lift f r (u ++ w) rest
    exact ⟨a :: l', (p.cons a).trans move.symm, by rw [List.map_cons, e]⟩
theorem marksK_take {ms : List (Int × Int)} {i : Nat} (hi : i < ms.length) (nd : (ms.map (·.1)).Nodup) : putK (marksK (ms.take i)) (Sum.inl ms[i].1) (.int ms[i].2) = marksK (ms.take (i + 1)) := by
  have fresh : (Sum.inl ms[i].1 : Key) ∉ (marksK (ms.take i)).map (·.1) := fun z => by
    rw [keysM] at z
    obtain ⟨n, hn, e⟩ := List.mem_map.mp z
    have e2 : n = ms[i].1 := Sum.inl.inj e
    rw [e2, List.map_take] at hn
    obtain ⟨j, hj, ej⟩ := List.mem_iff_getElem.mp hn
    rw [List.length_take, List.length_map] at hj
    rw [List.getElem_take, List.getElem_map] at ej
    have apart := List.pairwise_iff_getElem.mp nd j i (by rw [List.length_map]; omega) (by rw [List.length_map]; exact hi) (by omega)
    rw [List.getElem_map, List.getElem_map] at apart
    exact apart ej
  rw [putK_new _ (valV_fresh fresh), List.take_succ_eq_append_getElem hi]
  unfold marksK
  rw [List.map_append]
  rfl

/-! ### behind a lock -/
theorem unlock {H H' : Hp} {a : Addr} {o : Obj} {u : HO} (here : H a = some u) (s : Same (upd H a (.frz o u)) H') : Same H (upd H' a u) := fun q w hq => by
  by_cases e : q = a
  · subst e
    rw [upd_same, ← here, hq]
  · rw [upd_ne e]
    exact s q w (by rw [upd_ne e]; exact hq)
theorem star_take {es : List Edg} {n : Int} {j : Nat} (hj : j < es.length) : star (es.take (j + 1)) n = star (es.take j) n ++ (if es[j].lo = n ∨ es[j].hi = n then [es[j].letter] else []) := by
  rw [List.take_succ_eq_append_getElem hj]
  unfold star
  rw [List.filter_append, List.map_append]
  congr 1
  by_cases c : es[j].lo = n ∨ es[j].hi = n
  · rw [if_pos c]
    simp [c]
  · rw [if_neg c]
    simp only [not_or] at c
    simp [c.1, c.2]
theorem star_len (es : List Edg) (n : Int) : (star es n).length ≤ es.length := by
  unfold star
  rw [List.length_map]
  exact List.length_filter_le _ _
theorem in_two (n a b : Int) : inV (.int n) [.int a, .int b] = decide (a = n ∨ b = n) := by
  show ((a == n) || ((b == n) || false)) = _
  by_cases c1 : a = n <;> by_cases c2 : b = n <;> simp [c1, c2]
theorem starsK_take {ms : List (Int × Int)} {es : List Edg} {i : Nat} (hi : i < ms.length) (nd : (ms.map (·.1)).Nodup) :
    putK (starsK (ms.take i) es) (Sum.inl ms[i].1) (.str (txt (star es ms[i].1))) = starsK (ms.take (i + 1)) es := by
  have keys : (starsK (ms.take i) es).map (·.1) = (marksK (ms.take i)).map (·.1) := by
    unfold starsK marksK
    rw [List.map_map, List.map_map]
    rfl
  have fresh : (Sum.inl ms[i].1 : Key) ∉ (starsK (ms.take i) es).map (·.1) := fun z => by
    rw [keys, keysM] at z
    obtain ⟨n, hn, e⟩ := List.mem_map.mp z
    have e2 : n = ms[i].1 := Sum.inl.inj e
    rw [e2, List.map_take] at hn
    obtain ⟨j, hj, ej⟩ := List.mem_iff_getElem.mp hn
    rw [List.length_take, List.length_map] at hj
    rw [List.getElem_take, List.getElem_map] at ej
    have apart := List.pairwise_iff_getElem.mp nd j i (by rw [List.length_map]; omega) (by rw [List.length_map]; exact hi) (by omega)
    rw [List.getElem_map, List.getElem_map] at apart
    exact apart ej
  rw [putK_new _ (valV_fresh fresh), List.take_succ_eq_append_getElem hi]
  unfold starsK
  rw [List.map_append]
  rfl

/-! ### what the methods promise, of a web that stands, asked for what it has -/
theorem webF_no (a1 a2 a3 : Addr) {m : Str} (h1 : ¬ m = "marks") (h2 : ¬ m = "pairs") (h3 : ¬ m = "stars") : (webF a1 a2 a3).lookup m = none := by
  unfold webF
  rw [lookup_putF, if_neg h3, lookup_putF, if_neg h2, lookup_putF, if_neg h1]
  rfl
def spChkN (C : Addr) : Sp := fun vs H Q _ => ∃ (x : Addr) (n : Int) (ms : List (Int × Int)) (es : List Edg), vs = [.ref x, .int n] ∧ WebAt C H x ms es ∧ n ∈ ms.map (·.1) ∧ Q .non H
def spChkD (C : Addr) : Sp := fun vs H Q _ => ∃ (x : Addr) (e : Edg) (ms : List (Int × Int)) (es : List Edg), vs = [.ref x, .str (txt [e.letter])] ∧ WebAt C H x ms es ∧ e ∈ es ∧ Q .non H
def spNodes (C : Addr) : Sp := fun vs H Q _ => ∃ (x : Addr) (ms : List (Int × Int)) (es : List Edg), vs = [.ref x] ∧ WebAt C H x ms es ∧ ∀ p, H p = none → Q (.ref p) (upd H p (.lst ((ms.map (·.1)).map V.int)))
def spEdges (C : Addr) : Sp := fun vs H Q _ => ∃ (x : Addr) (ms : List (Int × Int)) (es : List Edg), vs = [.ref x] ∧ WebAt C H x ms es ∧ ∀ p, H p = none → Q (.ref p) (upd H p (.lst ((es.map (·.letter)).map sig)))
def spMark (C : Addr) : Sp := fun vs H Q _ => ∃ (x : Addr) (n k : Int) (ms : List (Int × Int)) (es : List Edg), vs = [.ref x, .int n] ∧ WebAt C H x ms es ∧ (n, k) ∈ ms ∧ Q (.int k) H
def spEnds (C : Addr) : Sp := fun vs H Q _ => ∃ (x : Addr) (e : Edg) (ms : List (Int × Int)) (es : List Edg), vs = [.ref x, .str (txt [e.letter])] ∧ WebAt C H x ms es ∧ e ∈ es ∧ Q (.ref e.pair) H
def spLWeb (C : Addr) : Sp := fun vs H Q _ => ∃ (t : Addr) (ms : List (Int × Int)) (es : List Edg), vs = [.ref t] ∧ RawAt H t ms es ∧ ms.length < 64 ∧ es.length < 64 ∧
  ∀ H' x ms' es', Same H H' → WebAt C H' x ms' es' → Made ms ms' es es' → Q (.ref x) H'

/-! ### a web against drawn dicts -/
theorem one_order_int : ∀ (a b : List Int), a.Perm b → a.Pairwise (· ≤ ·) → b.Pairwise (· ≤ ·) → a = b
  | [], b, p, _, _ => (List.perm_nil.mp p.symm).symm
  | x :: r, [], p, _, _ => absurd p.length_eq (by simp)
  | x :: r, y :: t, p, ha, hb => by
    have hx : x ∈ y :: t := p.mem_iff.mp List.mem_cons_self
    have hy : y ∈ x :: r := p.mem_iff.mpr List.mem_cons_self
    have xy : x ≤ y := by
      rcases List.mem_cons.mp hy with e | e
      · omega
      · exact (List.pairwise_cons.mp ha).1 y e
    have yx : y ≤ x := by
      rcases List.mem_cons.mp hx with e | e
      · omega
      · exact (List.pairwise_cons.mp hb).1 x e
    have e : x = y := by omega
    subst e
    rw [one_order_int r t ((List.perm_cons x).mp p) (List.pairwise_cons.mp ha).2 (List.pairwise_cons.mp hb).2]
theorem one_order_nat {a b : List Nat} (p : a.Perm b) (ha : a.Pairwise (· < ·)) (hb : b.Pairwise (· < ·)) : a = b := by
  have h := one_order_int (a.map Int.ofNat) (b.map Int.ofNat) (p.map _) (List.pairwise_map.mpr (ha.imp fun h => by simp; omega)) (List.pairwise_map.mpr (hb.imp fun h => by simp; omega))
  have back := congrArg (List.map Int.toNat) h
  rw [List.map_map, List.map_map] at back
  have e : (Int.toNat ∘ Int.ofNat) = id := funext fun n => rfl
  rw [e, List.map_id, List.map_id] at back
  exact back
/-- a drawn web whose dicts stand in any order -/
def RawG (H : Hp) (t : Addr) (ms : List (Int × Int)) (es : List Edg) : Prop :=
  ∃ dm de : Addr, H t = some (.tup [.ref dm, .ref de]) ∧ H dm = some (.dK (marksK ms)) ∧ H de = some (.dK (endsK es)) ∧ MarksOk ms ∧ EdgesOk H ms es ∧ ∀ e ∈ es, e.lo < e.hi
theorem RawG.same {H H' : Hp} {t : Addr} {ms : List (Int × Int)} {es : List Edg} (r : RawG H t ms es) (s : Same H H') : RawG H' t ms es := by
  obtain ⟨dm, de, h1, h2, h3, h4, h5, h6⟩ := r
  exact ⟨dm, de, s _ _ h1, s _ _ h2, s _ _ h3, h4, h5.same s, h6⟩
theorem WebAt.same {C : Addr} {H H' : Hp} {x : Addr} {ms : List (Int × Int)} {es : List Edg} (r : WebAt C H x ms es) (s : Same H H') : WebAt C H' x ms es := by
  obtain ⟨dx, a1, a2, a3, h1, h2, h3, h4, h5⟩ := r
  exact ⟨dx, a1, a2, a3, s _ _ h1, s _ _ h2, s _ _ h3, s _ _ h4, ⟨h5.rise, h5.node, h5.mark, h5.risE, h5.name, fun e he => s _ _ (h5.pair e he), h5.less, h5.ends⟩⟩
def tri (e : Edg) : Nat × Int × Int := (e.letter, e.lo, e.hi)
def spIsWeb (C : Addr) : Sp := fun vs H Q _ => ∃ (x t : Addr) (ms ms0 : List (Int × Int)) (es es0 : List Edg), vs = [.ref x, .ref t] ∧ WebAt C H x ms es ∧ RawG H t ms0 es0 ∧ ms.Perm ms0 ∧ (es.map tri).Perm (es0.map tri) ∧ ∀ H', Same H H' → Q (.bl true) H'
theorem eqv_ints {H : Hp} {p q : Addr} {ks : List Int} {n : Nat} (hp : H p = some (.lst (ks.map V.int))) (hq : H q = some (.lst (ks.map V.int))) (few : ks.length ≤ 10000) : Eqv H (n + 1) (.ref p) (.ref q) :=
  .lst hp hq rfl (by rw [List.length_map]; exact few) fun i x y hx hy => by
    have e : x = y := Option.some.inj (hx.symm.trans hy)
    subst e
    obtain ⟨k, _, rfl⟩ := List.mem_map.mp (List.mem_of_getElem? hx)
    exact .int _ _
theorem eqv_sigs {H : Hp} {p q : Addr} {cs : List Nat} {n : Nat} (hp : H p = some (.lst (cs.map sig))) (hq : H q = some (.lst (cs.map sig))) (few : cs.length ≤ 10000) : Eqv H (n + 1) (.ref p) (.ref q) :=
  .lst hp hq rfl (by rw [List.length_map]; exact few) fun i x y hx hy => by
    have e : x = y := Option.some.inj (hx.symm.trans hy)
    subst e
    obtain ⟨k, _, rfl⟩ := List.mem_map.mp (List.mem_of_getElem? hx)
    exact .str _ _
theorem eqv_pair {H : Hp} {p q : Addr} {i j : Int} {n : Nat} (hp : H p = some (.tup [.int i, .int j])) (hq : H q = some (.tup [.int i, .int j])) : Eqv H (n + 1) (.ref p) (.ref q) :=
  .tup hp hq rfl (by show 2 ≤ 10000; decide) fun k x y hx hy => by
    have e : x = y := Option.some.inj (hx.symm.trans hy)
    subst e
    have m : x ∈ [V.int i, V.int j] := List.mem_of_getElem? hx
    rcases List.mem_cons.mp m with rfl | m
    · exact .int _ _
    · rw [List.mem_singleton.mp m]
      exact .int _ _

/-! ### lists of pairs -/
def PairsAt (H : Hp) (p : Addr) (prs : List (Int × Int)) : Prop :=
  ∃ ps : List Addr, H p = some (.lst (ps.map V.ref)) ∧ ps.length = prs.length ∧ ∀ (j : Nat) (q : Addr) (z : Int × Int), ps[j]? = some q → prs[j]? = some z → H q = some (.tup [.int z.1, .int z.2])
theorem PairsAt.same {H H' : Hp} {p : Addr} {prs : List (Int × Int)} (h : PairsAt H p prs) (s : Same H H') : PairsAt H' p prs := by
  obtain ⟨ps, h1, h2, h3⟩ := h
  exact ⟨ps, s _ _ h1, h2, fun j q z a b => s _ _ (h3 j q z a b)⟩
theorem PairsAt.keep {H H' : Hp} {b p : Addr} {prs : List (Int × Int)} (h : PairsAt H p prs) (hb : ∃ u, H b = some (.lst u)) (np : p ≠ b) (k : Kp b H H') : PairsAt H' p prs := by
  obtain ⟨ps, h1, h2, h3⟩ := h
  obtain ⟨u, hb⟩ := hb
  exact ⟨ps, k _ _ np h1, h2, fun j q z x y => k _ _ (ne_of (h3 j q z x y) hb (by intro e; cases e)) (h3 j q z x y)⟩
theorem Bag.hbl {H : Hp} {b l : Addr} (B : Bag H b l) : ∃ u, H b = some (.lst u) := by
  obtain ⟨xs, i, n, s, h, _⟩ := B
  exact ⟨_, h⟩
def GoodPairs (size : Int) (prs : List (Int × Int)) : Prop := ∀ z ∈ prs, 0 ≤ z.1 ∧ z.1 < size ∧ 0 ≤ z.2 ∧ z.2 < size ∧ z.1 ≠ z.2
def spPairs (prs : List (Int × Int)) : Sp := fun vs H Q _ => vs = [] ∧ ∀ H' p, Same H H' → H p = none → PairsAt H' p prs → Q (.ref p) H'
def fiveP : List (Int × Int) := [(0, 1), (0, 2), (0, 3), (0, 4), (1, 2), (1, 3), (1, 4), (2, 3), (2, 4), (3, 4)]
def sixP : List (Int × Int) := [(0, 3), (0, 4), (0, 5), (1, 3), (1, 4), (1, 5), (2, 3), (2, 4), (2, 5)]
/-- the pairs of a display, one tuple after another -/
inductive Laid : Hp → List (Int × Int) → List Addr → Hp → Prop
  | nil (H : Hp) : Laid H [] [] H
  | cons {H H' : Hp} {z : Int × Int} {r : List (Int × Int)} {q : Addr} {qs : List Addr} (new : H q = none) (rest : Laid (upd H q (.tup [.int z.1, .int z.2])) r qs H') : Laid H (z :: r) (q :: qs) H'
theorem Laid.same {H H' : Hp} {prs : List (Int × Int)} {qs : List Addr} (h : Laid H prs qs H') : Same H H' := by
  induction h with
  | nil H => exact Same.refl H
  | cons new _ ih => exact (same_upd new).trans ih
theorem Laid.at {H H' : Hp} {prs : List (Int × Int)} {qs : List Addr} (h : Laid H prs qs H') : qs.length = prs.length ∧ ∀ (j : Nat) (q : Addr) (z : Int × Int), qs[j]? = some q → prs[j]? = some z → H' q = some (.tup [.int z.1, .int z.2]) := by
  induction h with
  | nil H => exact ⟨rfl, fun j q z hq => by cases hq⟩
  | @cons H H' z r q qs new rest ih =>
    refine ⟨by rw [List.length_cons, List.length_cons, ih.1], fun j q' z' hq hz => ?_⟩
    cases j with
    | zero =>
      cases hq
      cases hz
      exact rest.same _ _ upd_same
    | succ j => exact ih.2 j q' z' hq hz
/-- a list of such tuples, laid last -/
theorem pairs_laid {H H' : Hp} {prs : List (Int × Int)} {qs : List Addr} {p : Addr} (h : Laid H prs qs H') (new : H' p = none) : PairsAt (upd H' p (.lst (qs.map V.ref))) p prs := by
  refine ⟨qs, upd_same, h.at.1, fun j q z hq hz => ?_⟩
  have st := h.at.2 j q z hq hz
  rw [upd_ne (ne_of_none st new)]
  exact st
def spRen : Sp := fun vs H Q _ => ∃ (b l : Addr) (size : Int) (pp : Addr) (prs : List (Int × Int)), vs = [.ref b, .int size, .ref pp] ∧ Bag H b l ∧ PairsAt H pp prs ∧ pp ≠ b ∧ 0 ≤ size ∧ size ≤ 12 ∧ GoodPairs size prs ∧ prs.length ≤ 24 ∧
  ∀ H' t ms es, Kp b H H' → Bag H' b l → RawG H' t ms es → Q (.ref t) H'

/-- the same, each pair with its address -/
def PairsZ (H : Hp) (p : Addr) (pz : List (Addr × Int × Int)) : Prop := H p = some (.lst (pz.map fun a => V.ref a.1)) ∧ ∀ a ∈ pz, H a.1 = some (.tup [.int a.2.1, .int a.2.2])
theorem PairsAt.z {H : Hp} {p : Addr} {prs : List (Int × Int)} (h : PairsAt H p prs) : ∃ pz, PairsZ H p pz ∧ pz.map (·.2) = prs := by
  obtain ⟨ps, h1, h2, h3⟩ := h
  refine ⟨ps.zip prs, ⟨?_, fun a ha => ?_⟩, List.map_snd_zip (by omega)⟩
  · have e : (ps.zip prs).map (fun a => V.ref a.1) = ((ps.zip prs).map (·.1)).map V.ref := by rw [List.map_map]; rfl
    rw [e, List.map_fst_zip (by omega)]
    exact h1
  · obtain ⟨j, hj, e⟩ := List.mem_iff_getElem.mp ha
    have g : (ps.zip prs)[j]? = some a := by rw [List.getElem?_eq_getElem hj, e]
    obtain ⟨g1, g2⟩ := List.getElem?_zip_eq_some.mp g
    exact h3 j a.1 a.2 g1 g2
theorem PairsZ.at {H : Hp} {p : Addr} {pz : List (Addr × Int × Int)} (h : PairsZ H p pz) : PairsAt H p (pz.map (·.2)) := by
  refine ⟨pz.map (·.1), by rw [h.1, List.map_map]; rfl, by rw [List.length_map, List.length_map], fun j q z hq hz => ?_⟩
  rw [List.getElem?_map] at hq hz
  cases e : pz[j]? with
  | none => rw [e] at hq; cases hq
  | some a =>
    rw [e] at hq hz
    cases hq
    cases hz
    exact h.2 a (List.mem_of_getElem? e)
theorem PairsZ.keep {H H' : Hp} {b p : Addr} {pz : List (Addr × Int × Int)} (h : PairsZ H p pz) (hb : ∃ u, H b = some (.lst u)) (np : p ≠ b) (k : Kp b H H') : PairsZ H' p pz := by
  obtain ⟨u, hb⟩ := hb
  exact ⟨k _ _ np h.1, fun a ha => k _ _ (ne_of (h.2 a ha) hb (by intro e; cases e)) (h.2 a ha)⟩
theorem PairsZ.same {H H' : Hp} {p : Addr} {pz : List (Addr × Int × Int)} (h : PairsZ H p pz) (s : Same H H') : PairsZ H' p pz := ⟨s _ _ h.1, fun a ha => s _ _ (h.2 a ha)⟩
/-- the list at p written anew with pairs that stand -/
theorem PairsZ.put {H : Hp} {p : Addr} {pz : List (Addr × Int × Int)} {u : List V} (hp : H p = some (.lst u)) (h : ∀ a ∈ pz, H a.1 = some (.tup [.int a.2.1, .int a.2.2])) : PairsZ (upd H p (.lst (pz.map fun a => V.ref a.1))) p pz :=
  ⟨upd_same, fun a ha => by rw [upd_ne (ne_of (h a ha) hp (by intro e; cases e))]; exact h a ha⟩
theorem erase_map {α β : Type} (f : α → β) : ∀ (l : List α) (k : Nat), (l.map f).eraseIdx k = (l.eraseIdx k).map f
  | [], _ => rfl
  | _ :: _, 0 => rfl
  | x :: r, k + 1 => by
    show f x :: (r.map f).eraseIdx k = f x :: (r.eraseIdx k).map f
    rw [erase_map f r k]
def spHard : Sp := fun vs H Q _ => ∃ (b l : Addr), vs = [.ref b] ∧ Bag H b l ∧ ∀ H' t ms es, Kp b H H' → Bag H' b l → RawG H' t ms es → Q (.ref t) H'
theorem RawAt.g {H : Hp} {t : Addr} {ms : List (Int × Int)} {es : List Edg} (h : RawAt H t ms es) (mf : ms.length < 64) (ef : es.length < 64) : RawG H t ms es := by
  obtain ⟨dm, de, h1, h2, h3, ok⟩ := h
  refine ⟨dm, de, h1, h2, h3, ⟨ok.rise.imp fun hab e => by rw [e] at hab; exact Int.lt_irrefl _ hab, mf, ok.node, ok.mark⟩, ⟨ok.risE.imp fun hab e => by rw [e] at hab; exact Nat.lt_irrefl _ hab, ef, ok.name, fun e he => ⟨ok.pair e he, ?_, ok.ends e he⟩⟩, ok.less⟩
  have := ok.less e he
  omega
/-- nodes from 0 to 11, rising: at most twelve -/
theorem few_nodes : ∀ (ks : List Int) (a : Int), (∀ k ∈ ks, a ≤ k ∧ k < 12) → ks.Pairwise (· < ·) → a ≤ 12 → (ks.length : Int) ≤ 12 - a
  | [], a, _, _, h => by simp; omega
  | k :: r, a, h, p, ha => by
    have hk := h k List.mem_cons_self
    have rest := few_nodes r (k + 1) (fun j hj => ⟨by have := (List.pairwise_cons.mp p).1 j hj; omega, (h j (List.mem_cons_of_mem _ hj)).2⟩) (List.pairwise_cons.mp p).2 (by omega)
    rw [List.length_cons]
    omega
theorem few_letters : ∀ (cs : List Nat) (a : Nat), (∀ c ∈ cs, a ≤ c ∧ c < 121) → cs.Pairwise (· < ·) → a ≤ 121 → cs.length + a ≤ 121
  | [], a, _, _, h => by simp; omega
  | c :: r, a, h, p, ha => by
    have hc := h c List.mem_cons_self
    have rest := few_letters r (c + 1) (fun j hj => ⟨by have := (List.pairwise_cons.mp p).1 j hj; omega, (h j (List.mem_cons_of_mem _ hj)).2⟩) (List.pairwise_cons.mp p).2 (by omega)
    rw [List.length_cons]
    omega
theorem alpha_range {c : Nat} (h : c ∈ alpha) : 97 ≤ c ∧ c < 121 := by
  simp only [alpha, List.mem_cons, List.not_mem_nil, or_false] at h
  omega
theorem RawAt.gen {H : Hp} {t : Addr} {ms : List (Int × Int)} {es : List Edg} (h : RawAt H t ms es) : RawG H t ms es := by
  obtain ⟨dm, de, h1, h2, h3, ok⟩ := id h
  have a := few_nodes (ms.map (·.1)) 0 (fun k hk => by obtain ⟨m, hm, rfl⟩ := List.mem_map.mp hk; exact ok.node m hm) ok.rise (by decide)
  have c := few_letters (es.map (·.letter)) 97 (fun k hk => by obtain ⟨e, he, rfl⟩ := List.mem_map.mp hk; exact alpha_range (ok.name e he)) ok.risE (by decide)
  rw [List.length_map] at a c
  exact h.g (by omega) (by omega)
end Tm

namespace T06
open PySem PySem.Spec PyProof.Rows L2 Tm
def topS (i : Nat) : Stmt := PySem.Challenge.pw_threadmark_k06_notes_of_webs.main.body.getD i (.Pass ⟨0, 0, 0, 0⟩)
abbrev sBag : Stmt := topS 24
abbrev sPull : Stmt := topS 25
abbrev sOf : Stmt := topS 26
theorem scBag : FnScope ["_law_script", "_law_salt", "_law_cell"] ["_law_script"] (defScope sBag) := ⟨rfl, rfl, rfl, by decide +kernel, rfl, by decide +kernel, by decide +kernel⟩
theorem scPull : FnScope ["_law_bag_here", "_law_many", "_law_cell", "_law_digit", "_law_square"] ["_law_bag_here", "_law_many"] (defScope sPull) := ⟨rfl, rfl, rfl, by decide +kernel, rfl, by decide +kernel, by decide +kernel⟩
theorem scOf : FnScope ["_law_bag_here", "_law_things"] ["_law_bag_here", "_law_things"] (defScope sOf) := ⟨rfl, rfl, rfl, by decide +kernel, rfl, by decide +kernel, by decide +kernel⟩
section
variable {P : Program} {w : World} {K : PySem.W.Frag} {mg : Str → Option Value} {base : Heap}
theorem ok_bag {f : Addr} {fd : FuncData} (F : Fun K "_law_bag" "_law_bag" sBag f fd) (ml : mg "list" = none) : FnOk P w K mg base CX0 1 f fd ["_law_script"] (spBag K) := by
  refine F.ok scBag (fun vs H Q E h => ?_) (fun cdv A outer s H vs Q E hr h => ?_)
  · obtain ⟨a, ns, rfl, _⟩ := h
    rfl
  · obtain ⟨a, ns, rfl, hS, q⟩ := h
    refine ⟨_, pss_cons (ps_set (i := 1) scBag.nd rfl (.inl rfl) pe_int)
      (pss_cons (ps_for PassesOwn.never rfl (pi_list (pe_slice sl_list (pv 0) po_none (po_some pe_int))) (pg_name (i := 2) scBag.nd rfl (.inl rfl))
        (pss_one (ps_set (i := 1) scBag.nd rfl (.inl rfl) (pe_op op_mod (pe_op op_add (pe_op op_add (pe_op op_mul (pv 1) pe_int) (pe_op op_mod (pv 2) pe_int)) pe_int) pe_int))))
      (pss_one (ps_ret (pe_lst (pa_cons (pe_callTy call_list_of (by rfl) ml boot_list (pa_cons (pe_slice sl_list (pv 0) po_none (po_some pe_int)) pa_nil)) (pa_cons pe_int (pa_cons pe_int (pa_cons (pv 1) pa_nil)))))))), ?_⟩
    refine ⟨.ref a, rfl, 63, rfl, a, ns.map V.int, rfl, hS, fun p np => ?_⟩
    have s1 : Same H (upd H p (.lst (cutV (ns.map V.int) none (some 63)))) := same_upd np
    refine ⟨p, rfl, ⟨_, .inl (.inl upd_same)⟩, for_list (K := K) (a := p) (xs := cutV (ns.map V.int) none (some 63))
      (fun i σ H' => ∃ (z : Int) (y : Option V), σ = [some (.ref a), some (.int z), y] ∧ 0 ≤ z ∧ z < 2147483549 ∧ H' = upd H p (.lst (cutV (ns.map V.int) none (some 63)))) ⟨3808, none, rfl, by decide, by decide, rfl⟩
      (fun i σ H' _ ⟨_, _, _, _, _, e⟩ => by rw [e]; exact .inl (.inl upd_same)) ?_ ?_⟩
    · rintro i y σ H' hi ⟨z, y0, rfl, h0, h1, rfl⟩
      obtain ⟨u, rfl⟩ := cut_int hi
      refine ⟨_, rfl, _, _, rfl, rfl, .inl ⟨by omega, by omega⟩, _, rfl, _, _, rfl, rfl, (by dsimp only; decide), _, _, rfl, rfl, _, _, rfl, rfl, _, _, rfl, rfl, (by dsimp only; decide), ?_⟩
      refine ⟨_, _, rfl, Int.emod_nonneg _ (by decide), Int.emod_lt_of_pos _ (by decide), rfl⟩
    · rintro σ H' ⟨z, y0, rfl, h0, h1, rfl⟩
      refine ⟨.ref a, rfl, 63, rfl, a, ns.map V.int, rfl, s1.seq hS, fun p2 np2 => ?_⟩
      refine ⟨p2, _, rfl, .inl (.inl (.inl upd_same)), fun l nl => ?_⟩
      refine ⟨.int z, rfl, (by show 4 ≤ sizeLine; decide), fun b nb => ?_⟩
      have e2 := (same_upd (o := .lst (cutV (ns.map V.int) none (some 63))) np2)
      have e3 := (same_upd (o := .lst (cutV (ns.map V.int) none (some 63))) nl)
      have e4 := (same_upd (o := .lst [.ref l, .int 0, .int 0, .int z]) nb)
      have f4 := ((s1.trans e2).trans e3).free nb
      have f3 := (s1.trans e2).free nl
      obtain ⟨ms, em⟩ := cut_ints ns none (some 63)
      refine q _ b l (((s1.trans e2).trans e3).trans e4) f4 f3 ⟨ms, 0, 0, z, upd_same, ?_, by decide, by decide, h0, h1⟩
      rw [← em]
      exact e4 _ _ upd_same

theorem ok_pull {f : Addr} {fd : FuncData} (F : Fun K "_law_pull" "_law_pull" sPull f fd) (ml : mg "len" = none) : FnOk P w K mg base CX0 1 f fd ["_law_bag_here", "_law_many"] spPull := by
  refine F.ok scPull (fun vs H Q E h => ?_) (fun cdv A outer s H vs Q E hr h => ?_)
  · obtain ⟨b, l, m, rfl, _⟩ := h
    rfl
  · obtain ⟨b, l, m, rfl, B, hm0, hm1, q⟩ := h
    refine ⟨_, pss_cons (ps_if (PW.pt (pw_and (pt_cmpR op_lt (pe_ix ix_list (pv 0) pe_int (fun _ _ => rfl)) (pv 1) (nomark _)) (pw_and1 (pt_cmpR op_lt (pe_ix ix_list (pv 0) pe_int (fun _ _ => rfl)) (pe_callB call_len_seq (by rfl) ml PySem.boot_len (pa_cons (pe_ix ix_list (pv 0) pe_int (fun _ _ => rfl)) pa_nil)) (nomark _)))))
        (pss_cons (ps_set (i := 2) scPull.nd rfl (.inl rfl) (pe_ix ix_list (pe_ix ix_list (pv 0) pe_int (fun _ _ => rfl)) (pe_ix ix_list (pv 0) pe_int (fun _ _ => rfl)) (fun _ _ => rfl)))
        (pss_cons (ps_asg (pe_op op_add (pe_ix ix_list (pv 0) pe_int (fun _ _ => rfl)) pe_int) (pg_sub (pv 0) pe_int set_list))
        (pss_cons (ps_asg pe_int (pg_sub (pv 0) pe_int set_list))
        (pss_one (ps_if (pt_cmpR op_ge (pv 2) (pe_op op_pow pe_int pe_int) (nomark _)) (pss_one (ps_asg (pv 2) (pg_sub (pv 0) pe_int set_list)))
          (pss_one (ps_asg (pe_op op_mod (pe_op op_add (pe_op op_add (pe_op op_mul (pe_ix ix_list (pv 0) pe_int (fun _ _ => rfl)) pe_int) (pe_op op_mul (pe_op op_mod (pv 2) pe_int) pe_int)) pe_int) pe_int) (pg_sub (pv 0) pe_int set_list))))))))
        pss_nil)
      (pss_cons (ps_if (pt_cmpR op_ge (pe_ix ix_list (pv 0) pe_int (fun _ _ => rfl)) (pv 1) (nomark _))
        (pss_cons (ps_set (i := 3) scPull.nd rfl (.inl rfl) (pe_op op_mod (pe_ix ix_list (pv 0) pe_int (fun _ _ => rfl)) (pv 1)))
        (pss_cons (ps_asg (pe_op op_fdiv (pe_ix ix_list (pv 0) pe_int (fun _ _ => rfl)) (pv 1)) (pg_sub (pv 0) pe_int set_list))
        (pss_one (ps_ret (pv 3))))) pss_nil)
      (pss_cons (ps_set (i := 4) scPull.nd rfl (.inl rfl) (pe_op op_mod (pe_op op_mul (pe_ix ix_list (pv 0) pe_int (fun _ _ => rfl)) (pe_ix ix_list (pv 0) pe_int (fun _ _ => rfl))) pe_int))
      (pss_cons (ps_asg (pe_op op_mod (pe_op op_add (pe_op op_add (pe_op op_mul (pv 4) pe_int) (pe_op op_mul (pe_ix ix_list (pv 0) pe_int (fun _ _ => rfl)) pe_int)) pe_int) pe_int) (pg_sub (pv 0) pe_int set_list))
      (pss_one (ps_ret (pe_op op_mod (pe_op op_add (pe_op op_fdiv (pe_ix ix_list (pv 0) pe_int (fun _ _ => rfl)) pe_int) (pe_op op_mul (pe_op op_mod (pe_ix ix_list (pv 0) pe_int (fun _ _ => rfl)) pe_int) pe_int)) (pv 1))))))), ?_⟩
    refine cut (fun σ' H' => ∃ y, σ' = [some (.ref b), some (.int m), y, none, none] ∧ Bag H' b l ∧ Kp b H H') (fun σ1 H1 hp => ?tail) (fun N hN => ?head)
    case head =>
      obtain ⟨xs, i, n, z, hb, hl, i0, n0, z0, z1⟩ := id B
      have nlb := bag_ne hb hl
      refine ⟨_, rfl, b, _, 2, .int n, rfl, rfl, SqL.of hb, rfl, _, rfl, _, _, rfl, rfl, _, rfl, ite2 (fun hlt => ?_) (fun _ => ?_)⟩
      · refine ⟨_, rfl, b, _, 1, .int i, rfl, rfl, SqL.of hb, rfl, _, rfl, b, _, 0, .ref l, rfl, rfl, SqL.of hb, rfl, l, _, rfl, .inl (SqL.of hl), _, _, rfl, rfl, _, rfl, ite2 (fun hlt2 => ?_) (fun _ => ?_)⟩
        · have hi : i < ((xs.map V.int).length : Int) := of_decide_eq_true hlt2
          rw [List.length_map] at hi
          obtain ⟨j, rfl⟩ : ∃ j : Nat, i = j := ⟨i.toNat, by omega⟩
          have hj : j < xs.length := by omega
          have gj : (xs.map V.int)[j]? = some (.int xs[j]) := by
            rw [List.getElem?_map, List.getElem?_eq_getElem hj]; rfl
          generalize xs[j] = c at gj
          refine ⟨_, rfl, b, _, 0, .ref l, rfl, rfl, SqL.of hb, rfl, _, rfl, b, _, 1, .int j, rfl, rfl, SqL.of hb, rfl, l, _, j, .int c, rfl, rfl, SqL.of hl, atI_nat gj, ?_⟩
          refine ⟨_, rfl, b, _, 1, .int j, rfl, rfl, SqL.of hb, rfl, _, _, rfl, rfl, _, rfl, b, _, 1, 1, rfl, rfl, hb, rfl, ?_⟩
          refine ⟨_, rfl, b, _, 2, 2, rfl, rfl, upd_same, rfl, ?_⟩
          rw [upd_upd]
          refine ⟨_, rfl, _, _, rfl, rfl, ⟨by decide, by decide, by decide⟩, _, _, rfl, rfl, _, rfl, ite2 (fun hge => ?_) (fun _ => ?_)⟩
          · refine ⟨_, rfl, _, rfl, b, _, 2, 2, rfl, rfl, upd_same, rfl, ?_⟩
            rw [upd_upd]
            refine hN _ _ ⟨_, rfl, ⟨xs, _, _, _, upd_same, by rw [upd_ne nlb]; exact hl, by omega, ?_, z0, z1⟩, Kp.set⟩
            have e := of_decide_eq_true hge
            have e2 : (0 : Int) ≤ 10 ^ (18 : Int).toNat := by decide
            omega
          · refine ⟨_, rfl, b, _, 3, .int z, rfl, rfl, SqL.of upd_same, rfl, _, _, rfl, rfl, .inl ⟨by omega, by omega⟩, _, rfl, _, _, rfl, rfl, (by dsimp only; decide), _, _, rfl, rfl, .inr ⟨by decide, by decide⟩, _, _, rfl, rfl, _, _, rfl, rfl, _, _, rfl, rfl, (by dsimp only; decide), _, rfl, b, _, 3, 3, rfl, rfl, upd_same, rfl, ?_⟩
            rw [upd_upd]
            exact hN _ _ ⟨_, rfl, ⟨xs, _, _, _, upd_same, by rw [upd_ne nlb]; exact hl, by omega, by decide, Int.emod_nonneg _ (by decide), Int.emod_lt_of_pos _ (by decide)⟩, Kp.set⟩
        · exact hN _ _ ⟨_, rfl, B, Kp.refl _ _⟩
      · exact hN _ _ ⟨_, rfl, B, Kp.refl _ _⟩
    case tail =>
      obtain ⟨y, rfl, ⟨xs, i, n, z, hb, hl, i0, n0, z0, z1⟩, kp⟩ := hp
      have nlb := bag_ne hb hl
      refine ⟨_, rfl, b, _, 2, .int n, rfl, rfl, SqL.of hb, rfl, _, rfl, _, _, rfl, rfl, _, rfl, ite2 (fun hge => ?_) (fun _ => ?_)⟩
      · refine ⟨_, rfl, b, _, 2, .int n, rfl, rfl, SqL.of hb, rfl, _, rfl, _, _, rfl, rfl, hm0, ?_⟩
        refine ⟨_, rfl, b, _, 2, .int n, rfl, rfl, SqL.of hb, rfl, _, rfl, _, _, rfl, rfl, ⟨hm0, hm1⟩, _, rfl, b, _, 2, 2, rfl, rfl, hb, rfl, ?_⟩
        refine ⟨_, rfl, ?_⟩
        exact q _ _ (kp.trans Kp.set) ⟨xs, _, _, _, upd_same, by rw [upd_ne nlb]; exact hl, i0, Int.ediv_nonneg n0 (by omega), z0, z1⟩ (Int.emod_nonneg _ (by omega)) (Int.emod_lt_of_pos _ hm0)
      · refine ⟨_, rfl, b, _, 3, .int z, rfl, rfl, SqL.of hb, rfl, _, rfl, b, _, 3, .int z, rfl, rfl, SqL.of hb, rfl, _, _, rfl, rfl, .inl ⟨by omega, by omega⟩, _, _, rfl, rfl, (by dsimp only; decide), ?_⟩
        have w0 : 0 ≤ z * z % 2147483549 := Int.emod_nonneg _ (by decide)
        have w1 : z * z % 2147483549 < 2147483549 := Int.emod_lt_of_pos _ (by decide)
        refine ⟨_, rfl, _, _, rfl, rfl, .inl ⟨by omega, by omega⟩, _, rfl, b, _, 3, .int z, rfl, rfl, SqL.of hb, rfl, _, _, rfl, rfl, .inl ⟨by omega, by omega⟩, _, _, rfl, rfl, _, _, rfl, rfl, _, _, rfl, rfl, (by dsimp only; decide), _, rfl, b, _, 3, 3, rfl, rfl, hb, rfl, ?_⟩
        refine ⟨_, rfl, b, _, 3, _, rfl, rfl, SqL.of upd_same, rfl, _, _, rfl, rfl, ⟨by decide, by decide⟩, _, rfl, b, _, 3, _, rfl, rfl, SqL.of upd_same, rfl, _, _, rfl, rfl, (by dsimp only; decide), _, _, rfl, rfl, .inr ⟨by decide, by decide⟩, _, _, rfl, rfl, _, rfl, _, _, rfl, rfl, hm0, ?_⟩
        exact q _ _ (kp.trans Kp.set) ⟨xs, _, _, _, upd_same, by rw [upd_ne nlb]; exact hl, i0, n0, Int.emod_nonneg _ (by decide), Int.emod_lt_of_pos _ (by decide)⟩ (Int.emod_nonneg _ (by omega)) (Int.emod_lt_of_pos _ hm0)
end

abbrev sMixed : Stmt := topS 27
theorem scMixed : FnScope ["_law_bag_here", "_law_things", "_law_left", "_law_found", "_law_turn"] ["_law_bag_here", "_law_things"] (defScope sMixed) := ⟨rfl, rfl, rfl, by decide +kernel, rfl, by decide +kernel, by decide +kernel⟩
section
variable {P : Program} {w : World} {K : PySem.W.Frag} {mg : Str → Option Value} {base : Heap}
theorem ok_of {f fP : Addr} {fd fdP : FuncData} (F : Fun K "_law_of" "_law_of" sOf f fd) (FP : Fun K "_law_pull" "_law_pull" sPull fP fdP) (bP : Binds K fdP ["_law_bag_here", "_law_many"] []) (gP : mg "_law_pull" = some (.ref fP)) (ml : mg "len" = none) : FnOk P w K mg base CX0 2 f fd ["_law_bag_here", "_law_things"] (spOf K) := by
  have GP : FnOk P w K mg base CX0 1 fP fdP ["_law_bag_here", "_law_many"] spPull := ok_pull FP ml
  refine F.ok scOf (fun vs H Q E h => ?_) (fun cdv A outer s H vs Q E hr h => ?_)
  · obtain ⟨b, l, t, xs, rfl, _⟩ := h
    rfl
  · obtain ⟨b, l, t, xs, rfl, B, hT, h0, h1, q⟩ := h
    refine ⟨_, pss_one (ps_ret (pe_ix ix_seq (pv 1) (pe_call GP hr (by rfl) gP FP.kp bP .nil pass0 (pa_cons (pv 0) (pa_cons (pe_callB call_len (by rfl) ml PySem.boot_len (pa_cons (pv 1) pa_nil)) pa_nil))) (fun _ _ => rfl))), ?_⟩
    rcases hT with ⟨a, rfl, nab, hS⟩ | ⟨z, rfl, hz, rfl⟩
    · refine ⟨_, rfl, _, rfl, _, rfl, _, _, rfl, .inl ⟨_, hS, rfl⟩, b, l, _, rfl, B, by omega, by omega, fun H' d kp B' d0 d1 => ?_⟩
      obtain ⟨j, rfl⟩ : ∃ j : Nat, d = j := ⟨d.toNat, by omega⟩
      have hj : j < xs.length := by omega
      exact .inl ⟨a, xs, _, xs[j], rfl, rfl, kp.seq nab hS, atI_nat (List.getElem?_eq_getElem hj), q _ _ kp B' (List.getElem_mem hj)⟩
    · rw [List.length_map, Array.length_toList] at h0 h1
      refine ⟨_, rfl, _, rfl, _, rfl, _, _, rfl, ⟨hz, rfl⟩, b, l, _, rfl, B, ?_, ?_, fun H' d kp B' d0 d1 => ?_⟩
      · show (0 : Int) < ((z.cps.size : Nat) : Int)
        omega
      · show ((z.cps.size : Nat) : Int) < 1073741824
        omega
      · have d2 : d < ((z.cps.size : Nat) : Int) := d1
        obtain ⟨j, rfl⟩ : ∃ j : Nat, d = j := ⟨d.toNat, by omega⟩
        have hj : j < z.cps.toList.length := by rw [Array.length_toList]; omega
        refine .inr (.inr ⟨z, _, z.cps.toList[j], rfl, rfl, hz, atI_nat (List.getElem?_eq_getElem hj), q _ _ kp B' ?_⟩)
        exact List.mem_map.mpr ⟨_, List.getElem_mem hj, rfl⟩
theorem ok_mixed {f fP : Addr} {fd fdP : FuncData} (F : Fun K "_law_mixed" "_law_mixed" sMixed f fd) (FP : Fun K "_law_pull" "_law_pull" sPull fP fdP) (bP : Binds K fdP ["_law_bag_here", "_law_many"] []) (gP : mg "_law_pull" = some (.ref fP)) (ml : mg "len" = none)
    (mli : mg "list" = none) (mr : mg "range" = none) : FnOk P w K mg base CX0 2 f fd ["_law_bag_here", "_law_things"] (spMixed K) := by
  have GP : FnOk P w K mg base CX0 1 fP fdP ["_law_bag_here", "_law_many"] spPull := ok_pull FP ml
  refine F.ok scMixed (fun vs H Q E h => ?_) (fun cdv A outer s H vs Q E hr h => ?_)
  · obtain ⟨b, l, a, xs, rfl, _⟩ := h
    rfl
  · obtain ⟨b, l, a, xs, rfl, B, nab, hS, hlen, q⟩ := h
    refine ⟨_, pss_cons (ps_par (i := 2) (j := 3) (by rfl) scMixed.nd rfl rfl (by decide) rfl rfl (pa_cons (pe_callTy call_list_of (by rfl) mli boot_list (pa_cons (pv 1) pa_nil)) (pa_cons (pe_lst pa_nil) pa_nil)) (by rfl))
      (pss_cons (ps_for PassesOwn.never rfl (pi_range1 (by rfl) mr (pa_cons (pe_callB call_len_seq (by rfl) ml PySem.boot_len (pa_cons (pv 1) pa_nil)) pa_nil)) (pg_name (i := 4) scMixed.nd rfl (.inl rfl))
        (pss_one (ps_expr (pe_bm PySem.F.plainAttrs_list PySem.F.slot_list_append PySem.F.type_list_append mt_append (pv 3) (pa_cons (pe_bm PySem.F.plainAttrs_list PySem.F.slot_list_pop PySem.F.type_list_pop mt_popAt (pv 2)
          (pa_cons (pe_call GP hr (by rfl) gP FP.kp bP .nil pass0 (pa_cons (pv 0) (pa_cons (pe_callB call_len_seq (by rfl) ml PySem.boot_len (pa_cons (pv 2) pa_nil)) pa_nil))) pa_nil)) pa_nil)))))
      (pss_one (ps_ret (pv 3)))), ?_⟩
    refine ⟨_, rfl, a, xs, rfl, .inl hS, fun p np => ⟨Nat.zero_le _, fun o no => ⟨_, _, rfl, ?_⟩⟩⟩
    have npo : p ≠ o := fun e => by rw [e] at no; rw [← e, upd_same] at no; cases no
    have no0 : H o = none := by rw [upd_ne npo.symm] at no; exact no
    have k2 : Kp b H (upd (upd H p (.lst xs)) o (.lst [])) := (Kp.new np).put no0
    have B2 : Bag (upd (upd H p (.lst xs)) o (.lst [])) b l := (B.new np).put (B.nb no0) (B.nl no0)
    have ea : (((xs.length : Nat) : Int)).toNat = xs.length := by omega
    refine ⟨_, rfl, a, xs, rfl, .inl (k2.seq nab hS), _, rfl, by omega, by omega, ?_⟩
    rw [ea]
    refine for_range (lo := 0) (n := xs.length) (fun i σ H' => ∃ (ys zs : List V) (y : Option V), σ = [some (.ref b), some (.ref a), some (.ref p), some (.ref o), y] ∧ Kp b H H' ∧ Bag H' b l ∧ H' p = some (.lst zs) ∧ H' o = some (.lst ys) ∧ (ys ++ zs).Perm xs ∧ ys.length = i)
      ⟨[], xs, none, rfl, k2, B2, by rw [upd_ne npo, upd_same], upd_same, .refl _, rfl⟩ ?_ ?_
    · rintro i σ H' hi ⟨ys, zs, y, rfl, kp, B', hp, ho, pm, hy⟩
      have hzl : ys.length + zs.length = xs.length := by
        have e := pm.length_eq
        rw [List.length_append] at e
        exact e
      refine ⟨_, rfl, .inl ⟨rfl, _, SqL.of ho⟩, _, rfl, .inl ⟨rfl, _, SqL.of hp⟩, _, rfl, _, rfl, p, zs, rfl, .inl (SqL.of hp), b, l, _, rfl, B', by omega, by omega, fun H1 d kp1 B1 d0 d1 => ?_⟩
      obtain ⟨j, rfl⟩ : ∃ j : Nat, d = j := ⟨d.toNat, by omega⟩
      have hj : j < zs.length := by omega
      have hp1 : H1 p = some (.lst zs) := kp1 _ _ (B.nb np) hp
      have ho1 : H1 o = some (.lst ys) := kp1 _ _ (B.nb no0) ho
      refine ⟨p, zs, _, j, zs[j], rfl, rfl, hp1, by omega, by omega, ?_, List.getElem?_eq_getElem hj, ?_⟩
      · exact (ixN_seq (n := zs.length) (i := (j : Int)) (j := j) (by unfold ixN; rw [if_pos (by omega), if_pos (by omega)]; rfl)).1
      · refine ⟨o, _, _, rfl, rfl, by rw [upd_ne npo.symm]; exact ho1, small1000 (by omega), ?_⟩
        refine ⟨ys ++ [zs[j]], zs.eraseIdx j, _, rfl, ((kp.trans kp1).put np).put no0, (B1.put (B.nb np) (B.nl np)).put (B.nb no0) (B.nl no0), ?_, upd_same, ?_, ?_⟩
        · rw [upd_ne npo, upd_same]
        · refine List.Perm.trans ?_ pm
          rw [List.append_assoc]
          exact List.Perm.append_left _ (erasePm zs j hj)
        · rw [List.length_append, hy]; rfl
    · rintro σ H' ⟨ys, zs, y, rfl, kp, B', hp, ho, pm, hy⟩
      have e0 : zs = [] := by
        have e := pm.length_eq
        rw [List.length_append] at e
        exact List.eq_nil_of_length_eq_zero (by omega)
      subst e0
      rw [List.append_nil] at pm
      exact ⟨_, rfl, q _ o ys kp B' no0 ho pm⟩
end

abbrev sSame : Stmt := topS 28
theorem scSame : FnScope ["_law_found", "_law_due", "_law_one", "_law_other"] ["_law_found", "_law_due"] (defScope sSame) := ⟨rfl, rfl, rfl, by decide +kernel, rfl, by decide +kernel, by decide +kernel⟩
structure SameT (mg : Str → Option Value) : Prop where
  isi : mg "isinstance" = none
  dict : mg "dict" = none
  list : mg "list" = none
  tuple : mg "tuple" = none
  bool : mg "bool" = none
  int : mg "int" = none
  str : mg "str" = none
  len : mg "len" = none
  all : mg "all" = none
  zip : mg "zip" = none
section
variable {P : Program} {w : World} {K : PySem.W.Frag} {mg : Str → Option Value} {base : Heap}
theorem ok_same0 {f : Addr} {fd : FuncData} (F : Fun K "_law_same" "_law_same" sSame f fd) (T : SameT mg) : FnOk P w K mg base CX0 (0 + 1) f fd ["_law_found", "_law_due"] (spSame (0)) := by
  refine F.ok scSame (fun vs H Q E h => ?_) (fun cdv A outer s H vs Q E hr h => ?_)
  · obtain ⟨x, y, rfl, _⟩ := h
    rfl
  · obtain ⟨x, y, rfl, he, q⟩ := h
    refine ⟨_, pss_cons (ps_if (PW.pt (pw_or (pt_cmpR op_isN (pv 1) pe_non (nomark _)) (pw_or1 (pt_cmpR op_isN (pv 0) pe_non (nomark _))))) (pss_one (ps_ret (pe_and (pe_cmpR op_isN (pv 0) pe_non (nomark _)) (pe_one (pe_cmpR op_isN (pv 1) pe_non (nomark _)))))) pss_nil)
      (pss_cons (ps_if (pt_val (pe_callB call_isi (by rfl) T.isi boot_isinstance (pa_cons (pv 1) (pa_cons (pe_bltn (v := .ty "dict") (by rfl) T.dict (by decide +kernel) rfl) pa_nil)))) pss_never pss_nil)
      (pss_cons (ps_if (pt_val (pe_callB call_isiT (by rfl) T.isi boot_isinstance (pa_cons (pv 1) (pa_cons (pe_tup (pa_cons (pe_bltn (v := .ty "list") (by rfl) T.list (by decide +kernel) rfl) (pa_cons (pe_bltn (v := .ty "tuple") (by rfl) T.tuple (by decide +kernel) rfl) pa_nil))) pa_nil)))) pss_never pss_nil)
      (pss_cons (ps_if (PW.pt (pw_or (pt_cmpR op_ne (pe_callB call_isi (by rfl) T.isi boot_isinstance (pa_cons (pv 0) (pa_cons (pe_bltn (v := .ty "bool") (by rfl) T.bool (by decide +kernel) rfl) pa_nil))) (pe_callB call_isi (by rfl) T.isi boot_isinstance (pa_cons (pv 1) (pa_cons (pe_bltn (v := .ty "bool") (by rfl) T.bool (by decide +kernel) rfl) pa_nil))) (nomark _))
          (pw_or1 (pt_cmpR op_ne (pe_callB call_isi (by rfl) T.isi boot_isinstance (pa_cons (pv 0) (pa_cons (pe_bltn (v := .ty "int") (by rfl) T.int (by decide +kernel) rfl) pa_nil))) (pe_callB call_isi (by rfl) T.isi boot_isinstance (pa_cons (pv 1) (pa_cons (pe_bltn (v := .ty "int") (by rfl) T.int (by decide +kernel) rfl) pa_nil))) (nomark _))))) pss_never pss_nil)
      (pss_one (ps_ret (pe_and (pe_cmpR op_eq (pe_callB call_isi (by rfl) T.isi boot_isinstance (pa_cons (pv 0) (pa_cons (pe_bltn (v := .ty "str") (by rfl) T.str (by decide +kernel) rfl) pa_nil))) (pe_callB call_isi (by rfl) T.isi boot_isinstance (pa_cons (pv 1) (pa_cons (pe_bltn (v := .ty "str") (by rfl) T.str (by decide +kernel) rfl) pa_nil))) (nomark _)) (pe_one (pe_cmpR op_eq (pv 0) (pv 1) (nomark _))))))))), ?_⟩
    rcases he with _ | ⟨_, bb⟩ | ⟨_, i⟩ | ⟨_, z⟩
    · refine ⟨_, rfl, rfl, _, rfl, iteT ⟨_, rfl, rfl, _, rfl, ifT rfl ⟨_, rfl, rfl, ?_⟩⟩⟩
      exact q _ (Same.refl _)
    · refine ⟨_, rfl, rfl, _, rfl, ifF (decide_eq_false (by intro e; cases e)) ⟨_, rfl, rfl, _, rfl, ifF (decide_eq_false (by intro e; cases e)) ?_⟩⟩
      refine ⟨_, rfl, _, _, _, _, false, rfl, .ty "dict", .base (.bl bb), kit_ty (by decide +kernel), _, rfl, iteF ?_⟩
      refine ⟨_, rfl, (by show 2 ≤ sizeLine; decide), fun t ht => ⟨_, t, _, _, [.type "list", .type "tuple"], false, rfl, upd_same, .cons (.ty _) (.cons (.ty _) .nil), .base (.bl bb), kit_list (by decide +kernel) (fun _ => by decide +kernel), _, rfl, iteF ?_⟩⟩
      refine ⟨_, rfl, _, _, _, _, true, rfl, .ty "bool", .base (.bl bb), kit_ty (by decide +kernel), _, rfl, _, _, _, _, true, rfl, .ty "bool", .base (.bl bb), kit_ty (by decide +kernel), rfl, _, rfl, ifF (by decide) ⟨_, rfl, _, _, _, _, true, rfl, .ty "int", .base (.bl bb), kit_ty (by decide +kernel), _, rfl, _, _, _, _, true, rfl, .ty "int", .base (.bl bb), kit_ty (by decide +kernel), rfl, _, rfl, ifF (by decide) ?_⟩⟩
      refine ⟨_, rfl, _, _, _, _, false, rfl, .ty "str", .base (.bl bb), kit_ty (by decide +kernel), _, rfl, _, _, _, _, false, rfl, .ty "str", .base (.bl bb), kit_ty (by decide +kernel), rfl, _, rfl, ifT (by decide) ⟨_, rfl, _, rfl, rfl, ?_⟩⟩
      rw [decide_eq_true rfl]
      exact q _ (same_upd ht)
    · refine ⟨_, rfl, rfl, _, rfl, ifF (decide_eq_false (by intro e; cases e)) ⟨_, rfl, rfl, _, rfl, ifF (decide_eq_false (by intro e; cases e)) ?_⟩⟩
      refine ⟨_, rfl, _, _, _, _, false, rfl, .ty "dict", .base (.int i), kit_ty (by decide +kernel), _, rfl, iteF ?_⟩
      refine ⟨_, rfl, (by show 2 ≤ sizeLine; decide), fun t ht => ⟨_, t, _, _, [.type "list", .type "tuple"], false, rfl, upd_same, .cons (.ty _) (.cons (.ty _) .nil), .base (.int i), kit_list (by decide +kernel) (fun _ => by decide +kernel), _, rfl, iteF ?_⟩⟩
      refine ⟨_, rfl, _, _, _, _, false, rfl, .ty "bool", .base (.int i), kit_ty (by decide +kernel), _, rfl, _, _, _, _, false, rfl, .ty "bool", .base (.int i), kit_ty (by decide +kernel), rfl, _, rfl, ifF (by decide) ⟨_, rfl, _, _, _, _, true, rfl, .ty "int", .base (.int i), kit_ty (by decide +kernel), _, rfl, _, _, _, _, true, rfl, .ty "int", .base (.int i), kit_ty (by decide +kernel), rfl, _, rfl, ifF (by decide) ?_⟩⟩
      refine ⟨_, rfl, _, _, _, _, false, rfl, .ty "str", .base (.int i), kit_ty (by decide +kernel), _, rfl, _, _, _, _, false, rfl, .ty "str", .base (.int i), kit_ty (by decide +kernel), rfl, _, rfl, ifT (by decide) ⟨_, rfl, _, rfl, rfl, ?_⟩⟩
      rw [decide_eq_true rfl]
      exact q _ (same_upd ht)
    · refine ⟨_, rfl, rfl, _, rfl, ifF (decide_eq_false (by intro e; cases e)) ⟨_, rfl, rfl, _, rfl, ifF (decide_eq_false (by intro e; cases e)) ?_⟩⟩
      refine ⟨_, rfl, _, _, _, _, false, rfl, .ty "dict", .base (.str z), kit_ty (by decide +kernel), _, rfl, iteF ?_⟩
      refine ⟨_, rfl, (by show 2 ≤ sizeLine; decide), fun t ht => ⟨_, t, _, _, [.type "list", .type "tuple"], false, rfl, upd_same, .cons (.ty _) (.cons (.ty _) .nil), .base (.str z), kit_list (by decide +kernel) (fun _ => by decide +kernel), _, rfl, iteF ?_⟩⟩
      refine ⟨_, rfl, _, _, _, _, false, rfl, .ty "bool", .base (.str z), kit_ty (by decide +kernel), _, rfl, _, _, _, _, false, rfl, .ty "bool", .base (.str z), kit_ty (by decide +kernel), rfl, _, rfl, ifF (by decide) ⟨_, rfl, _, _, _, _, false, rfl, .ty "int", .base (.str z), kit_ty (by decide +kernel), _, rfl, _, _, _, _, false, rfl, .ty "int", .base (.str z), kit_ty (by decide +kernel), rfl, _, rfl, ifF (by decide) ?_⟩⟩
      refine ⟨_, rfl, _, _, _, _, true, rfl, .ty "str", .base (.str z), kit_ty (by decide +kernel), _, rfl, _, _, _, _, true, rfl, .ty "str", .base (.str z), kit_ty (by decide +kernel), rfl, _, rfl, ifT (by decide) ⟨_, rfl, _, rfl, rfl, ?_⟩⟩
      rw [decide_eq_true rfl]
      exact q _ (same_upd ht)
theorem ok_sameS {f : Addr} {fd : FuncData} {n : Nat} (G : FnOk P w K mg base CX0 (n + 1) f fd ["_law_found", "_law_due"] (spSame n)) (gS : mg "_law_same" = some (.ref f)) (bS : Binds K fd ["_law_found", "_law_due"] []) (F : Fun K "_law_same" "_law_same" sSame f fd) (T : SameT mg) : FnOk P w K mg base CX0 (n + 1 + 1) f fd ["_law_found", "_law_due"] (spSame (n + 1)) := by
  refine F.ok scSame (fun vs H Q E h => ?_) (fun cdv A outer s H vs Q E hr h => ?_)
  · obtain ⟨x, y, rfl, _⟩ := h
    rfl
  · obtain ⟨x, y, rfl, he, q⟩ := h
    refine ⟨_, pss_cons (ps_if (PW.pt (pw_or (pt_cmpR op_isN (pv 1) pe_non (nomark _)) (pw_or1 (pt_cmpR op_isN (pv 0) pe_non (nomark _))))) (pss_one (ps_ret (pe_and (pe_cmpR op_isN (pv 0) pe_non (nomark _)) (pe_one (pe_cmpR op_isN (pv 1) pe_non (nomark _)))))) pss_nil)
      (pss_cons (ps_if (pt_val (pe_callB call_isi (by rfl) T.isi boot_isinstance (pa_cons (pv 1) (pa_cons (pe_bltn (v := .ty "dict") (by rfl) T.dict (by decide +kernel) rfl) pa_nil)))) pss_never pss_nil)
      (pss_cons (ps_if (pt_val (pe_callB call_isiT (by rfl) T.isi boot_isinstance (pa_cons (pv 1) (pa_cons (pe_tup (pa_cons (pe_bltn (v := .ty "list") (by rfl) T.list (by decide +kernel) rfl) (pa_cons (pe_bltn (v := .ty "tuple") (by rfl) T.tuple (by decide +kernel) rfl) pa_nil))) pa_nil)))) (pss_cons (ps_if (PW.pt (pw_or (pt_cmpR op_ne (pe_callB call_isi (by rfl) T.isi boot_isinstance (pa_cons (pv 0) (pa_cons (pe_bltn (v := .ty "list") (by rfl) T.list (by decide +kernel) rfl) pa_nil))) (pe_callB call_isi (by rfl) T.isi boot_isinstance (pa_cons (pv 1) (pa_cons (pe_bltn (v := .ty "list") (by rfl) T.list (by decide +kernel) rfl) pa_nil))) (nomark _)) (pw_or1 (pt_cmpR op_ne (pe_callB call_isi (by rfl) T.isi boot_isinstance (pa_cons (pv 0) (pa_cons (pe_bltn (v := .ty "tuple") (by rfl) T.tuple (by decide +kernel) rfl) pa_nil))) (pe_callB call_isi (by rfl) T.isi boot_isinstance (pa_cons (pv 1) (pa_cons (pe_bltn (v := .ty "tuple") (by rfl) T.tuple (by decide +kernel) rfl) pa_nil))) (nomark _))))) pss_never pss_nil)
        (pss_one (ps_ret (pe_and (pe_cmpR op_eq (pe_callB call_len_seq (by rfl) T.len PySem.boot_len (pa_cons (pv 0) pa_nil)) (pe_callB call_len_seq (by rfl) T.len PySem.boot_len (pa_cons (pv 1) pa_nil)) (nomark _))
          (pe_one (pe_callB (cr_all rfl) (by rfl) T.all boot_all (pa_cons (pe_lc (own := [("_law_one", 2), ("_law_other", 3)]) (g := gTup K 2 (gCons (gName 2) (gCons (gName 3) gNil))) (tt := tYes) rfl scSame.nd (RZ.pi_zipA (by rfl) T.zip (pa_cons (pv 0) (pa_cons (pv 1) pa_nil)))
            (blkOk_by (own := [("_law_one", 2), ("_law_other", 3)]) (N := ["_law_found", "_law_due", "_law_one", "_law_other"]) (sc := defScope sSame) (by decide +kernel))
            (fun _ _ _ _ _ => pg_tup rfl (pgs_cons (pg_name (i := 2) scSame.nd rfl (Or.inl rfl)) (pgs_cons (pg_name (i := 3) scSame.nd rfl (Or.inl rfl)) pgs_nil))) (fun _ _ _ _ _ => pts_nil)
            (fun _ _ _ _ _ => pe_call G hr (by rfl) gS F.kp bS .nil pass0 (pa_cons (pv 2) (pa_cons (pv 3) pa_nil)))) pa_nil))))))) pss_nil)
      (pss_cons (ps_if (PW.pt (pw_or (pt_cmpR op_ne (pe_callB call_isi (by rfl) T.isi boot_isinstance (pa_cons (pv 0) (pa_cons (pe_bltn (v := .ty "bool") (by rfl) T.bool (by decide +kernel) rfl) pa_nil))) (pe_callB call_isi (by rfl) T.isi boot_isinstance (pa_cons (pv 1) (pa_cons (pe_bltn (v := .ty "bool") (by rfl) T.bool (by decide +kernel) rfl) pa_nil))) (nomark _))
          (pw_or1 (pt_cmpR op_ne (pe_callB call_isi (by rfl) T.isi boot_isinstance (pa_cons (pv 0) (pa_cons (pe_bltn (v := .ty "int") (by rfl) T.int (by decide +kernel) rfl) pa_nil))) (pe_callB call_isi (by rfl) T.isi boot_isinstance (pa_cons (pv 1) (pa_cons (pe_bltn (v := .ty "int") (by rfl) T.int (by decide +kernel) rfl) pa_nil))) (nomark _))))) pss_never pss_nil)
      (pss_one (ps_ret (pe_and (pe_cmpR op_eq (pe_callB call_isi (by rfl) T.isi boot_isinstance (pa_cons (pv 0) (pa_cons (pe_bltn (v := .ty "str") (by rfl) T.str (by decide +kernel) rfl) pa_nil))) (pe_callB call_isi (by rfl) T.isi boot_isinstance (pa_cons (pv 1) (pa_cons (pe_bltn (v := .ty "str") (by rfl) T.str (by decide +kernel) rfl) pa_nil))) (nomark _)) (pe_one (pe_cmpR op_eq (pv 0) (pv 1) (nomark _))))))))), ?_⟩
    rcases he with _ | ⟨_, bb⟩ | ⟨_, i⟩ | ⟨_, z⟩ | ⟨hp, hq, hl, hz, hh⟩ | ⟨hp, hq, hl, hz, hh⟩
    · refine ⟨_, rfl, rfl, _, rfl, iteT ⟨_, rfl, rfl, _, rfl, ifT rfl ⟨_, rfl, rfl, ?_⟩⟩⟩
      exact q _ (Same.refl _)
    · refine ⟨_, rfl, rfl, _, rfl, ifF (decide_eq_false (by intro e; cases e)) ⟨_, rfl, rfl, _, rfl, ifF (decide_eq_false (by intro e; cases e)) ?_⟩⟩
      refine ⟨_, rfl, _, _, _, _, false, rfl, .ty "dict", .base (.bl bb), kit_ty (by decide +kernel), _, rfl, iteF ?_⟩
      refine ⟨_, rfl, (by show 2 ≤ sizeLine; decide), fun t ht => ⟨_, t, _, _, [.type "list", .type "tuple"], false, rfl, upd_same, .cons (.ty _) (.cons (.ty _) .nil), .base (.bl bb), kit_list (by decide +kernel) (fun _ => by decide +kernel), _, rfl, iteF ?_⟩⟩
      refine ⟨_, rfl, _, _, _, _, true, rfl, .ty "bool", .base (.bl bb), kit_ty (by decide +kernel), _, rfl, _, _, _, _, true, rfl, .ty "bool", .base (.bl bb), kit_ty (by decide +kernel), rfl, _, rfl, ifF (by decide) ⟨_, rfl, _, _, _, _, true, rfl, .ty "int", .base (.bl bb), kit_ty (by decide +kernel), _, rfl, _, _, _, _, true, rfl, .ty "int", .base (.bl bb), kit_ty (by decide +kernel), rfl, _, rfl, ifF (by decide) ?_⟩⟩
      refine ⟨_, rfl, _, _, _, _, false, rfl, .ty "str", .base (.bl bb), kit_ty (by decide +kernel), _, rfl, _, _, _, _, false, rfl, .ty "str", .base (.bl bb), kit_ty (by decide +kernel), rfl, _, rfl, ifT (by decide) ⟨_, rfl, _, rfl, rfl, ?_⟩⟩
      rw [decide_eq_true rfl]
      exact q _ (same_upd ht)
    · refine ⟨_, rfl, rfl, _, rfl, ifF (decide_eq_false (by intro e; cases e)) ⟨_, rfl, rfl, _, rfl, ifF (decide_eq_false (by intro e; cases e)) ?_⟩⟩
      refine ⟨_, rfl, _, _, _, _, false, rfl, .ty "dict", .base (.int i), kit_ty (by decide +kernel), _, rfl, iteF ?_⟩
      refine ⟨_, rfl, (by show 2 ≤ sizeLine; decide), fun t ht => ⟨_, t, _, _, [.type "list", .type "tuple"], false, rfl, upd_same, .cons (.ty _) (.cons (.ty _) .nil), .base (.int i), kit_list (by decide +kernel) (fun _ => by decide +kernel), _, rfl, iteF ?_⟩⟩
      refine ⟨_, rfl, _, _, _, _, false, rfl, .ty "bool", .base (.int i), kit_ty (by decide +kernel), _, rfl, _, _, _, _, false, rfl, .ty "bool", .base (.int i), kit_ty (by decide +kernel), rfl, _, rfl, ifF (by decide) ⟨_, rfl, _, _, _, _, true, rfl, .ty "int", .base (.int i), kit_ty (by decide +kernel), _, rfl, _, _, _, _, true, rfl, .ty "int", .base (.int i), kit_ty (by decide +kernel), rfl, _, rfl, ifF (by decide) ?_⟩⟩
      refine ⟨_, rfl, _, _, _, _, false, rfl, .ty "str", .base (.int i), kit_ty (by decide +kernel), _, rfl, _, _, _, _, false, rfl, .ty "str", .base (.int i), kit_ty (by decide +kernel), rfl, _, rfl, ifT (by decide) ⟨_, rfl, _, rfl, rfl, ?_⟩⟩
      rw [decide_eq_true rfl]
      exact q _ (same_upd ht)
    · refine ⟨_, rfl, rfl, _, rfl, ifF (decide_eq_false (by intro e; cases e)) ⟨_, rfl, rfl, _, rfl, ifF (decide_eq_false (by intro e; cases e)) ?_⟩⟩
      refine ⟨_, rfl, _, _, _, _, false, rfl, .ty "dict", .base (.str z), kit_ty (by decide +kernel), _, rfl, iteF ?_⟩
      refine ⟨_, rfl, (by show 2 ≤ sizeLine; decide), fun t ht => ⟨_, t, _, _, [.type "list", .type "tuple"], false, rfl, upd_same, .cons (.ty _) (.cons (.ty _) .nil), .base (.str z), kit_list (by decide +kernel) (fun _ => by decide +kernel), _, rfl, iteF ?_⟩⟩
      refine ⟨_, rfl, _, _, _, _, false, rfl, .ty "bool", .base (.str z), kit_ty (by decide +kernel), _, rfl, _, _, _, _, false, rfl, .ty "bool", .base (.str z), kit_ty (by decide +kernel), rfl, _, rfl, ifF (by decide) ⟨_, rfl, _, _, _, _, false, rfl, .ty "int", .base (.str z), kit_ty (by decide +kernel), _, rfl, _, _, _, _, false, rfl, .ty "int", .base (.str z), kit_ty (by decide +kernel), rfl, _, rfl, ifF (by decide) ?_⟩⟩
      refine ⟨_, rfl, _, _, _, _, true, rfl, .ty "str", .base (.str z), kit_ty (by decide +kernel), _, rfl, _, _, _, _, true, rfl, .ty "str", .base (.str z), kit_ty (by decide +kernel), rfl, _, rfl, ifT (by decide) ⟨_, rfl, _, rfl, rfl, ?_⟩⟩
      rw [decide_eq_true rfl]
      exact q _ (same_upd ht)
    · rename_i p' q' xs ys
      refine ⟨_, rfl, rfl, _, rfl, ifF (decide_eq_false (by intro e; cases e)) ⟨_, rfl, rfl, _, rfl, ifF (decide_eq_false (by intro e; cases e)) ?_⟩⟩
      refine ⟨_, rfl, _, _, _, _, false, rfl, .ty "dict", .base (.lst hq), kit_ty (by decide +kernel), _, rfl, iteF ?_⟩
      refine ⟨_, rfl, (by show 2 ≤ sizeLine; decide), fun t ht => ⟨_, t, _, _, [.type "list", .type "tuple"], true, rfl, upd_same, .cons (.ty _) (.cons (.ty _) .nil), .base (.lst (same_upd ht _ _ hq)), kit_list (by decide +kernel) (fun e => by cases e), _, rfl, iteT ?_⟩⟩
      have s1 : Same H (upd H t (.tup [.ty "list", .ty "tuple"])) := same_upd ht
      have hp1 := s1 _ _ hp
      have hq1 := s1 _ _ hq
      refine ⟨_, rfl, _, _, _, _, true, rfl, .ty "list", .base (.lst hp1), kit_ty (by decide +kernel), _, rfl, _, _, _, _, true, rfl, .ty "list", .base (.lst hq1), kit_ty (by decide +kernel), rfl, _, rfl, ifF (by decide) ⟨_, rfl, _, _, _, _, false, rfl, .ty "tuple", .base (.lst hp1), kit_ty (by decide +kernel), _, rfl, _, _, _, _, false, rfl, .ty "tuple", .base (.lst hq1), kit_ty (by decide +kernel), rfl, _, rfl, ifF (by decide) ?_⟩⟩
      refine ⟨_, rfl, p', xs, rfl, .inl (SqL.of hp1), _, rfl, q', ys, rfl, .inl (SqL.of hq1), rfl, _, rfl, ifT (decide_eq_true (by rw [hl])) ?_⟩
      refine ⟨_, rfl, _, rfl, p', q', xs, ys, rfl, .inl ⟨SqL.of hp1, SqL.of hq1, fun D hD => ?_⟩⟩
      have fD := s1.free hD
      refine lc_it (walk_zip (K := K) (a := p') (b := q') (xs := xs) (ys := ys) (n := xs.length) (by omega)) (fun i H' => Same H H' ∧ H' D = some (.lst ((List.replicate i true).map V.bl))) ⟨same_put s1 fD, upd_same⟩
        (fun i H' _ hv => ⟨SqL.of (hv.1 _ _ hp), SqL.of (hv.1 _ _ hq)⟩) ?_ ?_
      · rintro i v H' H2 hi ⟨sm, hDl⟩ ⟨t2, a1, a2, rfl, ht2, rfl, e1, e2⟩
        have s2 : Same H' (upd H' t2 (.tup [a1, a2])) := same_upd ht2
        refine ⟨t2, _, rfl, .inl (.inl upd_same), rfl, a1, [a2], rfl, a2, [], rfl, rfl, rfl, ?_⟩
        refine ⟨_, rfl, _, rfl, a1, a2, rfl, (hh i a1 a2 e1 e2).same (sm.trans s2), fun H3 s3 => ?_⟩
        refine ⟨_, s3 _ _ (s2 _ _ hDl), ?_, same_put (sm.trans (s2.trans s3)) fD, ?_⟩
        · rw [List.length_map, List.length_replicate]
          exact Nat.lt_of_lt_of_le hi (Nat.le_trans hz (by decide))
        · rw [upd_same, List.replicate_succ', List.map_append]
          rfl
      · rintro H' ⟨sm, hDl⟩
        refine ⟨D, List.replicate xs.length true, rfl, SqL.of hDl, ?_⟩
        have e : (List.replicate xs.length true).all id = true := by
          rw [List.all_eq_true]
          intro b hb
          exact (List.mem_replicate.mp hb).2
        rw [e]
        exact q _ sm
    · rename_i p' q' xs ys
      refine ⟨_, rfl, rfl, _, rfl, ifF (decide_eq_false (by intro e; cases e)) ⟨_, rfl, rfl, _, rfl, ifF (decide_eq_false (by intro e; cases e)) ?_⟩⟩
      refine ⟨_, rfl, _, _, _, _, false, rfl, .ty "dict", .base (.tup hq), kit_ty (by decide +kernel), _, rfl, iteF ?_⟩
      refine ⟨_, rfl, (by show 2 ≤ sizeLine; decide), fun t ht => ⟨_, t, _, _, [.type "list", .type "tuple"], true, rfl, upd_same, .cons (.ty _) (.cons (.ty _) .nil), .base (.tup (same_upd ht _ _ hq)), kit_tup, _, rfl, iteT ?_⟩⟩
      have s1 : Same H (upd H t (.tup [.ty "list", .ty "tuple"])) := same_upd ht
      have hp1 := s1 _ _ hp
      have hq1 := s1 _ _ hq
      refine ⟨_, rfl, _, _, _, _, false, rfl, .ty "list", .base (.tup hp1), kit_ty (by decide +kernel), _, rfl, _, _, _, _, false, rfl, .ty "list", .base (.tup hq1), kit_ty (by decide +kernel), rfl, _, rfl, ifF (by decide) ⟨_, rfl, _, _, _, _, true, rfl, .ty "tuple", .base (.tup hp1), kit_ty (by decide +kernel), _, rfl, _, _, _, _, true, rfl, .ty "tuple", .base (.tup hq1), kit_ty (by decide +kernel), rfl, _, rfl, ifF (by decide) ?_⟩⟩
      refine ⟨_, rfl, p', xs, rfl, .inr (.inl (.inl hp1)), _, rfl, q', ys, rfl, .inr (.inl (.inl hq1)), rfl, _, rfl, ifT (decide_eq_true (by rw [hl])) ?_⟩
      refine ⟨_, rfl, _, rfl, p', q', xs, ys, rfl, .inr ⟨.inl (.inl hp1), .inl (.inl hq1), fun D hD => ?_⟩⟩
      have fD := s1.free hD
      refine lc_it (zip_tuples (K := K) (a := p') (b := q') (xs := xs) (ys := ys) hl) (fun i H' => Same H H' ∧ H' D = some (.lst ((List.replicate i true).map V.bl))) ⟨same_put s1 fD, upd_same⟩
        (fun i H' _ hv => ⟨.inl (.inl (hv.1 _ _ hp)), .inl (.inl (hv.1 _ _ hq))⟩) ?_ ?_
      · rintro i v H' H2 hi ⟨sm, hDl⟩ ⟨t2, a1, a2, rfl, ht2, rfl, e1, e2⟩
        have s2 : Same H' (upd H' t2 (.tup [a1, a2])) := same_upd ht2
        refine ⟨t2, _, rfl, .inl (.inl upd_same), rfl, a1, [a2], rfl, a2, [], rfl, rfl, rfl, ?_⟩
        refine ⟨_, rfl, _, rfl, a1, a2, rfl, (hh i a1 a2 e1 e2).same (sm.trans s2), fun H3 s3 => ?_⟩
        refine ⟨_, s3 _ _ (s2 _ _ hDl), ?_, same_put (sm.trans (s2.trans s3)) fD, ?_⟩
        · rw [List.length_map, List.length_replicate]
          exact Nat.lt_of_lt_of_le hi (Nat.le_trans hz (by decide))
        · rw [upd_same, List.replicate_succ', List.map_append]
          rfl
      · rintro H' ⟨sm, hDl⟩
        refine ⟨D, List.replicate xs.length true, rfl, SqL.of hDl, ?_⟩
        have e : (List.replicate xs.length true).all id = true := by
          rw [List.all_eq_true]
          intro b hb
          exact (List.mem_replicate.mp hb).2
        rw [e]
        exact q _ sm
theorem ok_same {f : Addr} {fd : FuncData} (F : Fun K "_law_same" "_law_same" sSame f fd) (T : SameT mg) (gS : mg "_law_same" = some (.ref f)) (bS : Binds K fd ["_law_found", "_law_due"] []) : ∀ n : Nat, FnOk P w K mg base CX0 (n + 1) f fd ["_law_found", "_law_due"] (spSame n)
  | 0 => ok_same0 F T
  | n + 1 => ok_sameS (ok_same F T gS bS n) gS bS F T
end

abbrev sLets : Stmt := topS 29
theorem scLets : FnScope [] [] (defScope sLets) := ⟨rfl, rfl, rfl, by decide +kernel, rfl, by decide +kernel, by decide +kernel⟩
section
variable {P : Program} {w : World} {K : PySem.W.Frag} {mg : Str → Option Value} {base : Heap}
theorem ok_lets {f : Addr} {fd : FuncData} (F : Fun K "_law_letters" "_law_letters" sLets f fd) : FnOk P w K mg base CX0 1 f fd [] spLets := by
  refine F.ok scLets (fun vs H Q E h => ?_) (fun cdv A outer s H vs Q E hr h => ?_)
  · obtain ⟨rfl, _⟩ := h
    rfl
  · obtain ⟨rfl, q⟩ := h
    exact ⟨_, pss_one (ps_ret pe_str), q⟩
end


end T06

namespace T06
open PySem PySem.Spec PyProof.Rows L2 Tm
abbrev sRaw : Stmt := topS 30
theorem scRaw : FnScope ["_law_bag_here", "_law_wide", "_law_many", "_law_size", "_law_points", "_law_marks", "_law_ends", "_law_most", "_law_letter", "_law_first", "_law_last", "_law_point"] ["_law_bag_here", "_law_wide", "_law_many"] (defScope sRaw) := ⟨rfl, rfl, rfl, by decide +kernel, rfl, by decide +kernel, by decide +kernel⟩
structure RawT (mg : Str → Option Value) : Prop where
  sorted : mg "sorted" = none
  list : mg "list" = none
  range : mg "range" = none
  dict : mg "dict" = none
  min : mg "min" = none
  max : mg "max" = none
  len : mg "len" = none
section
variable {P : Program} {w : World} {K : PySem.W.Frag} {mg : Str → Option Value} {base : Heap}
set_option maxHeartbeats 2000000 in
theorem ok_raw {f fP fM fA : Addr} {fd fdP fdM fdA : FuncData} (F : Fun K "_law_raw" "_law_raw" sRaw f fd)
    (FP : Fun K "_law_pull" "_law_pull" sPull fP fdP) (bP : Binds K fdP ["_law_bag_here", "_law_many"] []) (gP : mg "_law_pull" = some (.ref fP))
    (FM : Fun K "_law_mixed" "_law_mixed" sMixed fM fdM) (bM : Binds K fdM ["_law_bag_here", "_law_things"] []) (gM : mg "_law_mixed" = some (.ref fM))
    (FA : Fun K "_law_letters" "_law_letters" sLets fA fdA) (bA : Binds K fdA [] []) (gA : mg "_law_letters" = some (.ref fA)) (T : RawT mg) :
    FnOk P w K mg base CX0 3 f fd ["_law_bag_here", "_law_wide", "_law_many"] spRaw := by
  have GP : FnOk P w K mg base CX0 1 fP fdP ["_law_bag_here", "_law_many"] spPull := ok_pull FP T.len
  have GM : FnOk P w K mg base CX0 2 fM fdM ["_law_bag_here", "_law_things"] (spMixed K) := ok_mixed FM FP bP gP T.len T.list T.range
  have GA : FnOk P w K mg base CX0 1 fA fdA [] spLets := ok_lets FA
  refine F.ok scRaw (fun vs H Q E h => ?_) (fun cdv A outer s H vs Q E hr h => ?_)
  · obtain ⟨b, l, wide, many, rfl, _⟩ := h
    rfl
  · obtain ⟨b, l, wide, many, rfl, B, w0, w1, m0, m1, hand⟩ := h
    have hr1 : Room 1 _ := hr.mono (by decide)
    refine ⟨_, pss_cons (ps_set (i := 3) scRaw.nd rfl (.inl rfl) (pe_call GP hr1 (by rfl) gP FP.kp bP .nil pass0 (pa_cons (pv 0) (pa_cons (pe_op op_add (pv 1) pe_int) pa_nil))))
      (pss_cons (ps_set (i := 4) scRaw.nd rfl (.inl rfl) (pe_callB cr_sorted (by rfl) T.sorted (by decide +kernel) (pa_cons (pe_slice sl_list (pe_call GM hr (by rfl) gM FM.kp bM .nil pass0 (pa_cons (pv 0) (pa_cons (pe_listRg rfl (by rfl) T.list (prg_1 (by rfl) T.range pe_int)) pa_nil))) po_none (po_some (pv 3))) pa_nil)))
      (pss_cons (ps_set (i := 5) scRaw.nd rfl (.inl rfl) (pe_callTy (call_dictP rfl) (by rfl) T.dict (by decide +kernel) (pa_cons (pe_lc (own := [("_law_point", 11)]) (g := gName 11) (tt := tYes) rfl scRaw.nd (pi_list (pv 4)) (blkOk_by (own := [("_law_point", 11)]) (N := ["_law_bag_here", "_law_wide", "_law_many", "_law_size", "_law_points", "_law_marks", "_law_ends", "_law_most", "_law_letter", "_law_first", "_law_last", "_law_point"]) (sc := defScope sRaw) (by decide +kernel))
          (fun _ _ _ _ _ => pg_name (i := 11) scRaw.nd rfl (Or.inl rfl)) (fun _ _ _ _ _ => pts_nil) (fun _ _ _ _ _ => pe_tup (pa_cons (pv 11) (pa_cons (pe_call GP hr1 (by rfl) gP FP.kp bP .nil pass0 (pa_cons (pv 0) (pa_cons pe_int pa_nil))) pa_nil)))) pa_nil)))
      (pss_cons (ps_set (i := 6) scRaw.nd rfl (.inl rfl) pe_dnewK)
      (pss_cons (ps_set (i := 7) scRaw.nd rfl (.inl rfl) (pe_ifExp (pt_cmpR op_gt (pv 3) pe_int (nomark _)) (pe_call GP hr1 (by rfl) gP FP.kp bP .nil pass0 (pa_cons (pv 0) (pa_cons (pe_op op_add (pv 2) pe_int) pa_nil))) pe_int))
      (pss_cons (ps_for PassesOwn.never rfl (pi_list (pe_callB cr_sortedS (by rfl) T.sorted (by decide +kernel) (pa_cons (pe_slice sl_list (pe_call GM hr (by rfl) gM FM.kp bM .nil pass0 (pa_cons (pv 0) (pa_cons (pe_callTy (call_listS rfl) (by rfl) T.list boot_list (pa_cons (pe_call0 GA hr1 (by rfl) gA FA.kp bA .nil pass0) pa_nil)) pa_nil))) po_none (po_some (pv 7))) pa_nil))) (pg_name (i := 8) scRaw.nd rfl (.inl rfl))
        (pss_cons (ps_set (i := 9) scRaw.nd rfl (.inl rfl) (pe_call GP hr1 (by rfl) gP FP.kp bP .nil pass0 (pa_cons (pv 0) (pa_cons (pv 3) pa_nil))))
        (pss_cons (ps_set (i := 10) scRaw.nd rfl (.inl rfl) (pe_op op_mod (pe_op op_add (pe_op op_add (pv 9) pe_int) (pe_call GP hr1 (by rfl) gP FP.kp bP .nil pass0 (pa_cons (pv 0) (pa_cons (pe_op op_sub (pv 3) pe_int) pa_nil)))) (pv 3)))
        (pss_one (ps_dput (hu_of hr) (pv 6) (pv 8) (pe_tup (pa_cons (pe_ix ix_list (pv 4) (pe_callB (call_min2 rfl) (by rfl) T.min (by decide +kernel) (pa_cons (pv 9) (pa_cons (pv 10) pa_nil))) (fun _ _ => rfl)) (pa_cons (pe_ix ix_list (pv 4) (pe_callB (call_max2 rfl) (by rfl) T.max (by decide +kernel) (pa_cons (pv 9) (pa_cons (pv 10) pa_nil))) (fun _ _ => rfl)) pa_nil))) rfl)))))
      (pss_one (ps_ret (pe_tup (pa_cons (pv 5) (pa_cons (pv 6) pa_nil)))))))))), ?_⟩
    -- size
    refine ⟨_, rfl, _, rfl, _, _, rfl, rfl, b, l, _, rfl, B, by omega, by omega, fun H1 size k1 B1 z0 z1 => ?_⟩
    -- points
    refine ⟨_, rfl, 12, rfl, RgOk.of_le (by decide) (by decide) (by decide) (by decide), fun rg nrg => ?_⟩
    rw [rg12]
    have B2 : Bag (upd H1 rg (.lst (twelve.map V.int))) b l := B1.new nrg
    refine ⟨b, l, rg, _, rfl, B2, B1.nb nrg, SqL.of upd_same, by rw [List.length_map]; decide, fun H3 mx ys k3 B3 nmx hmx pm => ?_⟩
    obtain ⟨js, rfl, pj⟩ := perm_ints pm
    have nmxb : mx ≠ b := B2.nb nmx
    have jl : js.length = 12 := pj.length_eq
    refine ⟨_, rfl, _, rfl, mx, _, rfl, SqL.of hmx, fun sl nsl => ?_⟩
    have esz : size = ((size.toNat : Nat) : Int) := by omega
    have ecut : cutV (js.map V.int) none (some size) = (js.take size.toNat).map V.int := by
      rw [esz, cutV_take, List.map_take]
      rfl
    rw [ecut]
    refine ⟨sl, js.take size.toNat, rfl, SqL.of upd_same, by rw [List.length_take]; omega, fun ks po pk rk npo => ?_⟩
    have kl : ks.length = size.toNat := by rw [pk.length_eq, List.length_take]; omega
    have knd : ks.Nodup := pk.nodup_iff.mpr ((pj.nodup_iff.mpr twelve_nodup).sublist (List.take_sublist _ _))
    have krise : ks.Pairwise (· < ·) := rise_lt rk knd
    have kin : ∀ k ∈ ks, 0 ≤ k ∧ k < 12 := fun k hk => twelve_mem (pj.mem_iff.mp (List.mem_of_mem_take (pk.mem_iff.mp hk)))
    have K3 : Kp b H H3 := k1.trans ((Kp.new nrg).trans k3)
    have K4 : Kp b H (upd (upd H3 sl (.lst ((js.take size.toNat).map V.int))) po (.lst (ks.map V.int))) := K3.trans ((Kp.new nsl).trans (Kp.new npo))
    have B4 : Bag (upd (upd H3 sl (.lst ((js.take size.toNat).map V.int))) po (.lst (ks.map V.int))) b l := (B3.new nsl).new npo
    have hpo4 : (upd (upd H3 sl (.lst ((js.take size.toNat).map V.int))) po (.lst (ks.map V.int))) po = some (.lst (ks.map V.int)) := upd_same
    have npob : po ≠ b := (B3.new nsl).nb npo
    generalize upd (upd H3 sl (.lst ((js.take size.toNat).map V.int))) po (.lst (ks.map V.int)) = H4 at K4 B4 hpo4 ⊢
    -- marks
    refine ⟨_, rfl, po, rfl, ⟨_, SqL.of hpo4⟩, fun D nD => ?_⟩
    have nDb : D ≠ b := B4.nb nD
    refine lc_list (K := K) (a := po) (xs := ks.map V.int) (fun i H' => Kp b H4 H' ∧ Bag H' b l ∧ ∃ (ps : List Addr) (xs : List Int), H' D = some (.lst (ps.map V.ref)) ∧ ps.length = i ∧ xs.length = i ∧ (∀ x ∈ xs, x = 0 ∨ x = 1) ∧
        ∀ (j : Nat) (p : Addr) (k x : Int), ps[j]? = some p → ks[j]? = some k → xs[j]? = some x → H' p = some (.tup [.int k, .int x]))
      ⟨Kp.new nD, B4.new nD, [], [], upd_same, rfl, rfl, fun x hx => absurd hx List.not_mem_nil, fun j p k x hp => by cases hp⟩ (fun i H' _ hv => SqL.of (hv.1 _ _ npob hpo4)) ?_ ?_
    · rintro i v H' hv ⟨kp, B', ps, xs, hD, hpl, hxl, h01, hat⟩
      rw [List.getElem?_map] at hv
      cases ek : ks[i]? with
      | none => rw [ek] at hv; cases hv
      | some k =>
        rw [ek] at hv
        have ev : v = V.int k := (Option.some.inj hv).symm
        subst ev
        have hi : i < ks.length := (List.getElem?_eq_some_iff.mp ek).1
        refine ⟨rfl, ?_⟩
        refine ⟨_, rfl, _, rfl, b, l, 2, rfl, B', by decide, by decide, fun H6 x k6 B6 x0 x1 => ⟨(by show 2 ≤ sizeLine; decide), fun p np => ?_⟩⟩
        have hD6 := k6 _ _ nDb hD
        have npD : p ≠ D := (ne_of_none hD6 np).symm
        refine ⟨_, (same_upd np) _ _ hD6, by rw [List.length_map, hpl]; exact small1000 (by omega), ?_, ?_, ps ++ [p], xs ++ [x], ?_, by rw [List.length_append, hpl]; rfl, by rw [List.length_append, hxl]; rfl, ?_, ?_⟩
        · exact ((kp.trans k6).trans (Kp.new np)).put nD
        · exact (B6.new np).put nDb (B4.nl nD)
        · rw [upd_same, List.map_append]
          rfl
        · intro y hy
          rcases List.mem_append.mp hy with hy | hy
          · exact h01 y hy
          · rw [List.mem_singleton.mp hy]
            omega
        · intro j p' k' x' hp' hk' hx'
          by_cases hj : j < i
          · rw [List.getElem?_append_left (by omega)] at hp' hx'
            have old := hat j p' k' x' hp' hk' hx'
            have nb' : p' ≠ b := fun z => by
              rw [z] at old
              obtain ⟨xs0, i0, n0, s0, hb0, _⟩ := B'
              rw [hb0] at old
              cases old
            have nD' : p' ≠ D := fun z => by rw [z, hD] at old; cases old
            rw [upd_ne nD']
            exact (same_upd np) _ _ (k6 _ _ nb' old)
          · have ej : j = i := by
              have := (List.getElem?_eq_some_iff.mp hp').1
              rw [List.length_append, hpl] at this
              have e1 : [p].length = 1 := rfl
              omega
            subst ej
            rw [List.getElem?_append_right (by omega), hpl, Nat.sub_self] at hp'
            rw [List.getElem?_append_right (by omega), hxl, Nat.sub_self] at hx'
            rw [ek] at hk'
            cases hp'
            cases hx'
            cases hk'
            rw [upd_ne npD, upd_same]
    rintro H7 ⟨k7, B7, ps, xs, hD7, hpl, hxl, h01, hat⟩
    rw [List.length_map] at hpl hxl
    have zl : (ks.zip xs).length = ks.length := by rw [List.length_zip]; omega
    have zfst : (ks.zip xs).map (·.1) = ks := List.map_fst_zip (by omega)
    refine ⟨D, ps, marksK (ks.zip xs), rfl, SqL.of hD7, ?_, fun dm ndm => ?_⟩
    · refine placewise ps (marksK (ks.zip xs)) (by unfold marksK; rw [List.length_map, zl, hpl]) fun j p kv hp hkv => ?_
      unfold marksK at hkv
      rw [List.getElem?_map] at hkv
      cases ez : (ks.zip xs)[j]? with
      | none => rw [ez] at hkv; cases hkv
      | some z =>
        rw [ez] at hkv
        cases hkv
        obtain ⟨zk, zx⟩ := List.getElem?_zip_eq_some.mp ez
        exact .inl (.inl (hat j p z.1 z.2 hp zk zx))
    have ndk : ((([] : List (Key × V)) ++ marksK (ks.zip xs)).map (·.1)).Nodup := by
      have e : (marksK (ks.zip xs)).map (·.1) = ks.map Sum.inl := by
        unfold marksK
        rw [List.map_map]
        conv => rhs; rw [← zfst, List.map_map]
        rfl
      rw [List.nil_append, e]
      exact List.pairwise_map.mpr (knd.imp fun hac he => hac (Sum.inl.inj he))
    rw [merge_fresh _ _ ndk, List.nil_append]
    have hmark : ∀ m ∈ ks.zip xs, m.2 = 0 ∨ m.2 = 1 := fun m hm => h01 _ (List.of_mem_zip hm).2
    have hnode : ∀ m ∈ ks.zip xs, 0 ≤ m.1 ∧ m.1 < 12 := fun m hm => kin _ (List.of_mem_zip hm).1
    have K8 : Kp b H (upd H7 dm (.dK (marksK (ks.zip xs)))) := (K4.trans k7).trans (Kp.new ndm)
    have B8 : Bag (upd H7 dm (.dK (marksK (ks.zip xs)))) b l := B7.new ndm
    have ndmb : dm ≠ b := B7.nb ndm
    have hdm8 : (upd H7 dm (.dK (marksK (ks.zip xs)))) dm = some (.dK (marksK (ks.zip xs))) := upd_same
    have hpo8 : (upd H7 dm (.dK (marksK (ks.zip xs)))) po = some (.lst (ks.map V.int)) := (same_upd ndm) _ _ (k7 _ _ npob hpo4)
    generalize hms : ks.zip xs = ms at zfst hmark hnode K8 B8 hdm8 hpo8 ⊢
    generalize upd H7 dm (.dK (marksK ms)) = H8 at K8 B8 hdm8 hpo8 ⊢
    -- ends = {}
    intro de nde
    have K9 : Kp b H (upd H8 de (.dK [])) := K8.trans (Kp.new nde)
    have B9 : Bag (upd H8 de (.dK [])) b l := B8.new nde
    have ndeb : de ≠ b := B8.nb nde
    have hde9 : (upd H8 de (.dK [])) de = some (.dK []) := upd_same
    have hdm9 := (same_upd (o := .dK []) nde) _ _ hdm8
    have hpo9 := (same_upd (o := .dK []) nde) _ _ hpo8
    have nde0 : H de = none := K8.free B8.hb nde
    generalize upd H8 de (.dK []) = H9 at K9 B9 hde9 hdm9 hpo9 ⊢
    -- most
    refine gname ?_
    dsimp only
    refine cut (t1 := tAsg _ (gName 7)) (fun σ' H' => ∃ most : Int, σ' = [some (.ref b), some (.int wide), some (.int many), some (.int size), some (.ref po), some (.ref dm), some (.ref de), some (.int most), none, none, none, none] ∧ Bag H' b l ∧ Kp b H9 H' ∧ 0 ≤ most ∧ most ≤ 24 ∧ (0 < most → 1 < size)) (fun σ1 H10 hp => ?tail) (fun Nx hN => ?head)
    case head =>
      refine ⟨_, rfl, _, _, rfl, rfl, _, rfl, ite2 (fun hgt => ?_) (fun hle => ?_)⟩
      · have g := of_decide_eq_true hgt
        exact ⟨_, rfl, _, rfl, _, _, rfl, rfl, b, l, _, rfl, B9, by omega, by omega, fun H' d k' B' d0 d1 => hN _ _ ⟨d, rfl, B', k', d0, by omega, fun _ => g⟩⟩
      · exact hN _ _ ⟨0, rfl, B9, Kp.refl _ _, by decide, by decide, fun z => absurd z (by decide)⟩
    case tail =>
      obtain ⟨most, rfl, B10, k10, q0, q1, hsz⟩ := hp
      refine ⟨_, rfl, rfl, _, rfl, by rw [txt_alpha, txt_len]; decide, fun ls nls => ?_⟩
      rw [txt_alpha, txt_cps]
      have B11 : Bag (upd H10 ls (.lst (alpha.map sig))) b l := B10.new nls
      refine ⟨b, l, ls, alpha.map sig, rfl, B11, B10.nb nls, SqL.of upd_same, by rw [List.length_map]; decide, fun H12 mo ys k12 B12 nmo hmo pm2 => ?_⟩
      obtain ⟨ds, rfl, pd⟩ := perm_sigs pm2
      refine ⟨_, rfl, _, rfl, mo, _, rfl, SqL.of hmo, fun s2 ns2 => ?_⟩
      have emo : most = ((most.toNat : Nat) : Int) := by omega
      have dl : ds.length = 24 := pd.length_eq
      have ecut2 : cutV (ds.map sig) none (some most) = ((ds.take most.toNat).map fun d => txt [d]).map V.str := by
        rw [emo, cutV_take, ← List.map_take, List.map_map]
        rfl
      rw [ecut2]
      refine ⟨s2, (ds.take most.toNat).map (fun d => txt [d]), rfl, SqL.of upd_same, by rw [List.length_map, List.length_take]; omega, fun zs lt pz rz nlt => ?_⟩
      obtain ⟨cs, rfl, pc⟩ := perm_letters pz
      have cnd : cs.Nodup := pc.nodup_iff.mpr ((pd.nodup_iff.mpr alpha_nodup).sublist (List.take_sublist _ _))
      have crise : cs.Pairwise (· < ·) := letters_rise rz cnd
      have cal : ∀ c ∈ cs, c ∈ alpha := fun c hc => pd.mem_iff.mp (List.mem_of_mem_take (pc.mem_iff.mp hc))
      have cl : cs.length ≤ most.toNat := by rw [pc.length_eq, List.length_take]; omega
      have k13 : Kp b H9 (upd (upd H12 s2 (.lst (((ds.take most.toNat).map fun d => txt [d]).map V.str))) lt (.lst ((cs.map fun d => txt [d]).map V.str))) := k10.trans ((Kp.new nls).trans (k12.trans ((Kp.new ns2).trans (Kp.new nlt))))
      have B13 : Bag (upd (upd H12 s2 (.lst (((ds.take most.toNat).map fun d => txt [d]).map V.str))) lt (.lst ((cs.map fun d => txt [d]).map V.str))) b l := (B12.new ns2).new nlt
      have hlt13 : (upd (upd H12 s2 (.lst (((ds.take most.toNat).map fun d => txt [d]).map V.str))) lt (.lst ((cs.map fun d => txt [d]).map V.str))) lt = some (.lst ((cs.map fun d => txt [d]).map V.str)) := upd_same
      have nltb : lt ≠ b := (B12.new ns2).nb nlt
      generalize upd (upd H12 s2 (.lst (((ds.take most.toNat).map fun d => txt [d]).map V.str))) lt (.lst ((cs.map fun d => txt [d]).map V.str)) = H13 at k13 B13 hlt13 ⊢
      have hde13 := k13 _ _ ndeb hde9
      have hdm13 := k13 _ _ ndmb hdm9
      have hpo13 := k13 _ _ npob hpo9
      have nltde : lt ≠ de := ne_of hlt13 hde13 (by intro z; cases z)
      have npode : po ≠ de := ne_of hpo13 hde13 (by intro z; cases z)
      have ndel : de ≠ l := fun z => by
        obtain ⟨xs0, i0, n0, s0, _, hl0, _⟩ := id B13
        rw [z, hl0] at hde13
        cases hde13
      have ndmde : dm ≠ de := fun z => by rw [z] at hdm8; rw [hdm8] at nde; cases nde
      refine ⟨lt, rfl, ⟨_, SqL.of hlt13⟩, for_list (K := K) (a := lt) (xs := (cs.map fun d => txt [d]).map V.str)
        (fun i σ H' => ∃ (y8 y9 y10 : Option V) (es : List Edg), σ = [some (.ref b), some (.int wide), some (.int many), some (.int size), some (.ref po), some (.ref dm), some (.ref de), some (.int most), y8, y9, y10, none]
          ∧ Kp b H H' ∧ Bag H' b l ∧ H' lt = some (.lst ((cs.map fun d => txt [d]).map V.str)) ∧ H' po = some (.lst (ks.map V.int)) ∧ H' dm = some (.dK (marksK ms)) ∧ H' de = some (.dK (endsK es)) ∧ es.map (·.letter) = cs.take i
          ∧ ∀ e ∈ es, H' e.pair = some (.tup [.int e.lo, .int e.hi]) ∧ e.lo < e.hi ∧ e.lo ∈ ks ∧ e.hi ∈ ks)
        ⟨none, none, none, [], rfl, K9.trans k13, B13, hlt13, hpo13, hdm13, hde13, rfl, fun e he => absurd he List.not_mem_nil⟩ (fun i σ H' _ ⟨_, _, _, _, _, _, _, h1, _⟩ => SqL.of h1) ?_ ?_⟩
      · rintro i v σ H14 hv ⟨y8, y9, y10, es, rfl, K14, B14, hlt14, hpo14, hdm14, hde14, hes, hall⟩
        rw [List.map_map, List.getElem?_map] at hv
        cases ec : cs[i]? with
        | none => rw [ec] at hv; cases hv
        | some c =>
          rw [ec] at hv
          have ev : v = V.str (txt [c]) := (Option.some.inj hv).symm
          subst ev
          have hi : i < cs.length := (List.getElem?_eq_some_iff.mp ec).1
          have hs1 : 1 < size := hsz (by omega)
          refine ⟨_, rfl, _, rfl, b, l, size, rfl, B14, by omega, by omega, fun H15 d k15 B15 d0 d1 => ?_⟩
          refine ⟨_, rfl, _, _, rfl, rfl, _, rfl, _, rfl, _, _, rfl, rfl, b, l, _, rfl, B15, by omega, by omega, fun H16 g k16 B16 g0 g1 => ⟨_, _, rfl, rfl, _, rfl, _, _, rfl, rfl, (by show (0 : Int) < size; omega), ?_⟩⟩
          have g2 : g < size - 1 := g1
          have hl0 : 0 ≤ (d + 1 + g) % size := Int.emod_nonneg _ (by omega)
          have hl1 : (d + 1 + g) % size < size := Int.emod_lt_of_pos _ (by omega)
          have hne : (d + 1 + g) % size ≠ d := by
            by_cases c1 : d + 1 + g < size
            · rw [Int.emod_eq_of_lt (by omega) c1]
              omega
            · have c2 : (d + 1 + g) % size = d + 1 + g - size := by
                rw [← Int.sub_emod_right, Int.emod_eq_of_lt (by omega) (by omega)]
              omega
          show _
          generalize hlast : (d + 1 + g) % size = last at hl0 hl1 hne
          have k16' : Kp b H14 H16 := k15.trans k16
          have hpo16 := k16' _ _ npob hpo14
          have hlo : ∃ (u t : Nat), u < t ∧ t < ks.length ∧ (if last < d then last else d) = (u : Int) ∧ (if last > d then last else d) = (t : Int) := by
            by_cases c1 : last < d
            · exact ⟨last.toNat, d.toNat, by omega, by omega, by rw [if_pos c1]; omega, by rw [if_neg (by omega)]; omega⟩
            · exact ⟨d.toNat, last.toNat, by omega, by omega, by rw [if_neg c1]; omega, by rw [if_pos (by omega)]; omega⟩
          obtain ⟨u, t, hut, ht, eu, et⟩ := hlo
          have hu : u < ks.length := by omega
          have gu : (ks.map V.int)[u]? = some (.int ks[u]) := by rw [List.getElem?_map, List.getElem?_eq_getElem hu]; rfl
          have gt : (ks.map V.int)[t]? = some (.int ks[t]) := by rw [List.getElem?_map, List.getElem?_eq_getElem ht]; rfl
          refine ⟨_, rfl, _, rfl, _, rfl, _, _, rfl, po, _, _, .int ks[u], rfl, rfl, SqL.of hpo16, ?_, _, rfl, _, rfl, _, rfl, _, _, rfl, po, _, _, .int ks[t], rfl, rfl, SqL.of hpo16, ?_, (by show 2 ≤ sizeLine; decide), fun pr npr => ?_⟩
          · show atI (ks.map V.int) (if (d + 1 + g) % size < d then (d + 1 + g) % size else d) = _
            rw [hlast, eu]
            exact atI_nat gu
          · show atI (ks.map V.int) (if (d + 1 + g) % size > d then (d + 1 + g) % size else d) = _
            rw [hlast, et]
            exact atI_nat gt
          have hde16 := (same_upd (o := .tup [.int ks[u], .int ks[t]]) npr) _ _ (k16' _ _ ndeb hde14)
          have fresh : (Sum.inr (txt [c]) : Key) ∉ (endsK es).map (·.1) := fun z => by
            unfold endsK at z
            rw [List.map_map] at z
            obtain ⟨e, he, ez⟩ := List.mem_map.mp z
            have ez2 : e.letter = c := List.head_eq_of_cons_eq (txt_inj (Sum.inr.inj ez))
            have hm : c ∈ cs.take i := by
              rw [← hes, ← ez2]
              exact List.mem_map.mpr ⟨e, he, rfl⟩
            obtain ⟨j, hj, ej⟩ := List.mem_iff_getElem.mp hm
            rw [List.length_take] at hj
            rw [List.getElem_take] at ej
            have gi : cs[i] = c := Option.some.inj ((List.getElem?_eq_getElem hi).symm.trans ec)
            have up := List.pairwise_iff_getElem.mp crise j i (by omega) hi (by omega)
            rw [ej, gi] at up
            exact Nat.lt_irrefl _ up
          have eel : es.length = i := by
            have e := congrArg List.length hes
            rw [List.length_map, List.length_take] at e
            omega
          refine ⟨_, rfl, _, rfl, de, _, rfl, DPut.k (k := Sum.inr (txt [c])) hde16 (by unfold endsK; rw [List.length_map, eel]; exact small1000 (by omega)), ?_⟩
          rw [putK_new _ (valV_fresh fresh)]
          refine ⟨_, _, _, es ++ [⟨c, pr, ks[u], ks[t]⟩], rfl, ?_, ?_, ?_, ?_, ?_, ?_, ?_, ?_⟩
          · exact ((K14.trans k16').trans (Kp.new npr)).put nde0
          · exact (B16.new npr).put ndeb ndel
          · rw [upd_ne nltde]
            exact (same_upd npr) _ _ (k16' _ _ nltb hlt14)
          · rw [upd_ne npode]
            exact (same_upd npr) _ _ hpo16
          · rw [upd_ne ndmde]
            exact (same_upd npr) _ _ (k16' _ _ ndmb hdm14)
          · rw [upd_same]
            unfold endsK
            rw [List.map_append]
            rfl
          · rw [List.map_append, hes, List.take_succ_eq_append_getElem hi]
            have gi : cs[i] = c := Option.some.inj ((List.getElem?_eq_getElem hi).symm.trans ec)
            rw [gi]
            rfl
          · intro e he
            rcases List.mem_append.mp he with he | he
            · obtain ⟨a1, a2, a3, a4⟩ := hall e he
              have nb' : e.pair ≠ b := fun z => by
                rw [z] at a1
                obtain ⟨xs0, i0, n0, s0, hb0, _⟩ := id B14
                rw [hb0] at a1
                cases a1
              have nd' : e.pair ≠ de := fun z => by rw [z, hde14] at a1; cases a1
              refine ⟨?_, a2, a3, a4⟩
              rw [upd_ne nd']
              exact (same_upd npr) _ _ (k16' _ _ nb' a1)
            · rw [List.mem_singleton.mp he]
              have npd : pr ≠ de := fun z => by rw [z, k16' _ _ ndeb hde14] at npr; cases npr
              refine ⟨?_, rise_get krise hu ht hut, List.getElem_mem hu, List.getElem_mem ht⟩
              show (upd (upd H16 pr (.tup [.int ks[u], .int ks[t]])) de _) pr = _
              rw [upd_ne npd, upd_same]
      · rintro σ H14 ⟨y8, y9, y10, es, rfl, K14, B14, hlt14, hpo14, hdm14, hde14, hes, hall⟩
        rw [List.length_map, List.length_map, List.take_length] at hes
        refine ⟨_, rfl, _, rfl, (by show 2 ≤ sizeLine; decide), fun tt ntt => ?_⟩
        have st := same_upd (o := .tup [.ref dm, .ref de]) ntt
        refine hand _ tt ms es (K14.trans (Kp.new ntt)) (B14.new ntt) ⟨dm, de, upd_same, st _ _ hdm14, st _ _ hde14, ?_⟩
        refine ⟨by rw [zfst]; exact krise, hnode, hmark, by rw [hes]; exact crise, ?_, fun e he => st _ _ (hall e he).1, fun e he => (hall e he).2.1, fun e he => by rw [zfst]; exact (hall e he).2.2⟩
        intro e he
        refine cal _ ?_
        rw [← hes]
        exact List.mem_map.mpr ⟨e, he, rfl⟩
end


end T06

namespace T06
open PySem PySem.Spec PyProof.Rows L2 Tm
open ClX
abbrev sIsNode : Stmt := topS 14
abbrev sIsMark : Stmt := topS 15
abbrev sIsName : Stmt := topS 16
abbrev sJoins : Stmt := topS 17
abbrev sChkM : Stmt := topS 18
abbrev sChkE : Stmt := topS 19
theorem scIsNode : FnScope ["number"] ["number"] (defScope sIsNode) := ⟨rfl, rfl, rfl, by decide +kernel, rfl, by decide +kernel, by decide +kernel⟩
theorem scIsMark : FnScope ["number"] ["number"] (defScope sIsMark) := ⟨rfl, rfl, rfl, by decide +kernel, rfl, by decide +kernel, by decide +kernel⟩
theorem scIsName : FnScope ["text"] ["text"] (defScope sIsName) := ⟨rfl, rfl, rfl, by decide +kernel, rfl, by decide +kernel, by decide +kernel⟩
theorem scJoins : FnScope ["marks", "pair"] ["marks", "pair"] (defScope sJoins) := ⟨rfl, rfl, rfl, by decide +kernel, rfl, by decide +kernel, by decide +kernel⟩
theorem scChkM : FnScope ["marks", "node"] ["marks"] (defScope sChkM) := ⟨rfl, rfl, rfl, by decide +kernel, rfl, by decide +kernel, by decide +kernel⟩
theorem scChkE : FnScope ["marks", "edges", "name"] ["marks", "edges"] (defScope sChkE) := ⟨rfl, rfl, rfl, by decide +kernel, rfl, by decide +kernel, by decide +kernel⟩
/-- what the module's names hold, as far as the checks ask -/
structure ChkT (K : PySem.W.Frag) (mg : Str → Option Value) (C : Addr) (mc : Value) : Prop where
  web : mg "Web" = some (.ref C)
  read : CRead K C mc
  nodes : ∃ u, CVal K C mc "MAX_NODES" (.int 12) u
  names : ∃ t, mg "EDGE_NAMES" = some (.str (Str.ofString "abcdefghijklmnopqrstuvwx") t)
  sorted : mg "sorted" = none
  len : mg "len" = none
section
variable {P : Program} {w : World} {K : PySem.W.Frag} {mg : Str → Option Value} {base : Heap}
theorem ok_isnode {f C : Addr} {mc : Value} {fd : FuncData} (F : Fun K "is_node" "is_node" sIsNode f fd) (T : ChkT K mg C mc) : FnOk P w K mg base CX0 1 f fd ["number"] spIsNode := by
  refine F.ok scIsNode (fun vs H Q E h => ?_) (fun cdv A outer s H vs Q E hr h => ?_)
  · obtain ⟨n, rfl, _⟩ := h
    rfl
  · obtain ⟨n, rfl, n0, n1, q⟩ := h
    obtain ⟨u, cv⟩ := T.nodes
    refine ⟨_, pss_one (ps_ret (pe_chain op_le op_lt pe_int (pv 0) (pe_cval (pe_glob (v := .ref C) (by rfl) T.web rfl)))), ?_⟩
    refine ⟨_, rfl, 0, n, rfl, rfl, true, ?_, ?_⟩
    · exact congrArg V.bl (decide_eq_true n0)
    · refine iteT ⟨C, mc, _, u, rfl, T.read, cv, n, 12, rfl, rfl, ?_⟩
      show Q (.bl (decide (n < 12))) H
      rw [decide_eq_true n1]
      exact q
theorem ok_ismark {f : Addr} {fd : FuncData} (F : Fun K "is_mark" "is_mark" sIsMark f fd) : FnOk P w K mg base CX0 1 f fd ["number"] spIsMark := by
  refine F.ok scIsMark (fun vs H Q E h => ?_) (fun cdv A outer s H vs Q E hr h => ?_)
  · obtain ⟨n, rfl, _⟩ := h
    rfl
  · obtain ⟨n, rfl, n01, q⟩ := h
    refine ⟨_, pss_one (ps_ret (pe_cmpR op_in_seq (pv 0) (pe_tup (pa_cons pe_int (pa_cons pe_int pa_nil))) (by rfl))), ?_⟩
    refine ⟨_, rfl, (by show 2 ≤ sizeLine; decide), fun t nt => ⟨t, _, rfl, .inr (.inl (.inl upd_same)), rfl, rfl, ?_⟩⟩
    have e : inV (.int n) [.int 0, .int 1] = true := by
      rcases n01 with rfl | rfl <;> rfl
    show Q (.bl (inV (.int n) [.int 0, .int 1])) _
    rw [e]
    exact q _ (same_upd nt)
theorem ok_isname {f C : Addr} {mc : Value} {fd : FuncData} (F : Fun K "is_name" "is_name" sIsName f fd) (T : ChkT K mg C mc) : FnOk P w K mg base CX0 1 f fd ["text"] spIsName := by
  refine F.ok scIsName (fun vs H Q E h => ?_) (fun cdv A outer s H vs Q E hr h => ?_)
  · obtain ⟨c, rfl, _⟩ := h
    rfl
  · obtain ⟨c, rfl, hc, q⟩ := h
    obtain ⟨tk, mn⟩ := T.names
    refine ⟨_, pss_one (ps_ret (pe_and (pe_cmpR op_eq (pe_callB call_len_str (by rfl) T.len PySem.boot_len (pa_cons (pv 0) pa_nil)) pe_int (nomark _)) (pe_one (pe_cmpR op_in_sign (pv 0) (pe_glob (v := .str (Str.ofString "abcdefghijklmnopqrstuvwx")) (by rfl) mn ⟨tk, rfl⟩) (by rfl))))), ?_⟩
    refine ⟨_, rfl, _, rfl, by rw [txt_len]; exact (by decide : 1 ≤ sizeLine), rfl, true, ?_, ?_⟩
    · rw [txt_len]
      rfl
    · refine iteT ⟨_, rfl, c, _, rfl, rfl, ?_⟩
      rw [txt_alpha, txt_cps, decide_eq_true hc]
      exact q
theorem ok_joins {f C : Addr} {mc : Value} {fd : FuncData} (F : Fun K "joins_two" "joins_two" sJoins f fd) (T : ChkT K mg C mc) : FnOk P w K mg base CX0 1 f fd ["marks", "pair"] spJoins := by
  refine F.ok scJoins (fun vs H Q E h => ?_) (fun cdv A outer s H vs Q E hr h => ?_)
  · obtain ⟨dm, p, ms, x, y, rfl, _⟩ := h
    rfl
  · obtain ⟨dm, p, ms, x, y, rfl, hm, hp, ne, hx, hy, q⟩ := h
    obtain ⟨vx, ex⟩ := mark_some hx
    obtain ⟨vy, ey⟩ := mark_some hy
    have sp : SqT K H p [.int x, .int y] := .inl (.inl hp)
    refine ⟨_, pss_one (ps_ret (pe_and (pe_cmpR op_eq (pe_callB call_len_seq (by rfl) T.len PySem.boot_len (pa_cons (pv 1) pa_nil)) pe_int (nomark _))
      (pe_and (pe_cmpR op_ne (pe_ix ix_tup (pv 1) pe_int (fun _ _ => rfl)) (pe_ix ix_tup (pv 1) pe_int (fun _ _ => rfl)) (nomark _))
      (pe_and (pe_cmp (pc_din (hu_of hr) (pe_ix ix_tup (pv 1) pe_int (fun _ _ => rfl)) (pv 0)) rfl)
      (pe_one (pe_cmp (pc_din (hu_of hr) (pe_ix ix_tup (pv 1) pe_int (fun _ _ => rfl)) (pv 0)) rfl)))))), ?_⟩
    refine ⟨_, rfl, p, _, rfl, .inr sp, rfl, true, rfl, iteT ?_⟩
    refine ⟨_, rfl, p, _, 0, .int x, rfl, rfl, sp, rfl, _, rfl, p, _, 1, .int y, rfl, rfl, sp, rfl, rfl, true, ?_, iteT ?_⟩
    · rw [decide_eq_false (fun z => ne (V.int.inj z))]
      rfl
    refine ⟨_, rfl, p, _, 0, .int x, rfl, rfl, sp, rfl, _, rfl, dm, _, rfl, DGet.k (k := Sum.inl x) hm, true, ?_, iteT ?_⟩
    · rw [ex]
      rfl
    refine ⟨_, rfl, p, _, 1, .int y, rfl, rfl, sp, rfl, _, rfl, dm, _, rfl, DGet.k (k := Sum.inl y) hm, ?_⟩
    rw [ey]
    exact q
theorem ok_chkm {f fN fK C : Addr} {mc : Value} {fd fdN fdK : FuncData} (F : Fun K "check_marks" "check_marks" sChkM f fd) (FN : Fun K "is_node" "is_node" sIsNode fN fdN) (bN : Binds K fdN ["number"] []) (gN : mg "is_node" = some (.ref fN))
    (FK : Fun K "is_mark" "is_mark" sIsMark fK fdK) (bK : Binds K fdK ["number"] []) (gK : mg "is_mark" = some (.ref fK)) (T : ChkT K mg C mc) : FnOk P w K mg base CX0 2 f fd ["marks"] spChkM := by
  have GN : FnOk P w K mg base CX0 1 fN fdN ["number"] spIsNode := ok_isnode FN T
  have GK : FnOk P w K mg base CX0 1 fK fdK ["number"] spIsMark := ok_ismark FK
  refine F.ok scChkM (fun vs H Q E h => ?_) (fun cdv A outer s H vs Q E hr h => ?_)
  · obtain ⟨dm, ms, rfl, _⟩ := h
    rfl
  · obtain ⟨dm, ms, rfl, hm, ⟨nd, small, node, mark⟩, q⟩ := h
    have hn : (ms.map (·.1)).length < 64 := by rw [List.length_map]; exact small
    refine ⟨_, pss_cons (ps_for PassesOwn.never rfl (pi_list (pe_callB (call_sortedDI rfl) (by rfl) T.sorted (by decide +kernel) (pa_cons (pv 0) pa_nil))) (pg_name (i := 1) scChkM.nd rfl (.inl rfl))
        (pss_one (ps_if (pt_not (pt_val (pe_call GN hr (by rfl) gN FN.kp bN .nil pass0 (pa_cons (pv 1) pa_nil)))) pss_never pss_nil)))
      (pss_one (ps_for PassesOwn.never rfl (pi_list (pe_callB (call_sortedDI rfl) (by rfl) T.sorted (by decide +kernel) (pa_cons (pv 0) pa_nil))) (pg_name (i := 1) scChkM.nd rfl (.inl rfl))
        (pss_one (ps_if (pt_not (pt_val (pe_call GK hr (by rfl) gK FK.kp bK .nil pass0 (pa_cons (pe_dget (hu_of hr) (pv 0) (pv 1) (fun _ _ => rfl)) pa_nil)))) pss_never pss_nil)))), ?_⟩
    refine ⟨_, rfl, dm, _, _, rfl, .inl hm, keysM ms, hn, fun ys p py _ np => ?_⟩
    refine ⟨p, rfl, ⟨_, SqL.of upd_same⟩, for_list (K := K) (a := p) (xs := ys.map V.int) (fun i σ H' => ∃ y, σ = [some (.ref dm), y] ∧ H' = upd H p (.lst (ys.map V.int))) ⟨none, rfl, rfl⟩
      (fun i σ H' _ ⟨_, _, e⟩ => by rw [e]; exact SqL.of upd_same) ?_ ?_⟩
    · rintro i v σ H' hv ⟨y, rfl, rfl⟩
      obtain ⟨n, hn1, rfl⟩ := List.mem_map.mp (List.mem_of_getElem? hv)
      obtain ⟨m, hm1, rfl⟩ := List.mem_map.mp (py.mem_iff.mp hn1)
      exact ⟨_, rfl, m.1, rfl, (node m hm1).1, (node m hm1).2, true, rfl, iteF ⟨_, rfl, rfl⟩⟩
    · rintro σ H' ⟨y, rfl, rfl⟩
      have s1 : Same H (upd H p (.lst (ys.map V.int))) := same_upd np
      refine ⟨_, rfl, dm, _, _, rfl, .inl (s1 _ _ hm), keysM ms, hn, fun zs p2 pz _ np2 => ?_⟩
      have s2 := s1.trans (same_upd (o := .lst (zs.map V.int)) np2)
      have hz2 : (upd (upd H p (.lst (ys.map V.int))) p2 (.lst (zs.map V.int))) p2 = some (.lst (zs.map V.int)) := upd_same
      generalize upd (upd H p (.lst (ys.map V.int))) p2 (.lst (zs.map V.int)) = H2 at s2 hz2 ⊢
      refine ⟨p2, rfl, ⟨_, SqL.of hz2⟩, for_list (K := K) (a := p2) (xs := zs.map V.int) (fun i σ H' => ∃ y, σ = [some (.ref dm), y] ∧ Same H2 H') ⟨y, rfl, Same.refl _⟩ (fun i σ H' _ ⟨_, _, e⟩ => SqL.of (e _ _ hz2)) ?_ ?_⟩
      · rintro i v σ H' hv ⟨y', rfl, s3⟩
        obtain ⟨n, hn1, rfl⟩ := List.mem_map.mp (List.mem_of_getElem? hv)
        obtain ⟨m, hm1, rfl⟩ := List.mem_map.mp (pz.mem_iff.mp hn1)
        have look : valV (marksK ms) (Sum.inl m.1) = some (.int m.2) := mark_at nd hm1
        have got : DGet H' dm (.int m.1) (some (.int m.2)) := look ▸ DGet.k (k := Sum.inl m.1) (s3 _ _ (s2 _ _ hm))
        exact ⟨_, rfl, _, rfl, dm, _, rfl, got, m.2, rfl, mark m hm1, fun H4 s4 => ⟨true, rfl, iteF ⟨_, rfl, s3.trans s4⟩⟩⟩
      · rintro σ H' ⟨y', rfl, s3⟩
        exact q _ (s2.trans s3)
theorem ok_chke {f fN fJ C : Addr} {mc : Value} {fd fdN fdJ : FuncData} (F : Fun K "check_edges" "check_edges" sChkE f fd) (FN : Fun K "is_name" "is_name" sIsName fN fdN) (bN : Binds K fdN ["text"] []) (gN : mg "is_name" = some (.ref fN))
    (FJ : Fun K "joins_two" "joins_two" sJoins fJ fdJ) (bJ : Binds K fdJ ["marks", "pair"] []) (gJ : mg "joins_two" = some (.ref fJ)) (T : ChkT K mg C mc) : FnOk P w K mg base CX0 2 f fd ["marks", "edges"] spChkE := by
  have GN : FnOk P w K mg base CX0 1 fN fdN ["text"] spIsName := ok_isname FN T
  have GJ : FnOk P w K mg base CX0 1 fJ fdJ ["marks", "pair"] spJoins := ok_joins FJ T
  refine F.ok scChkE (fun vs H Q E h => ?_) (fun cdv A outer s H vs Q E hr h => ?_)
  · obtain ⟨dm, de, ms, es, rfl, _⟩ := h
    rfl
  · obtain ⟨dm, de, ms, es, rfl, hm, he, ⟨nd, small, name, pair⟩, q⟩ := h
    have hn : (es.map fun e => txt [e.letter]).length < 64 := by rw [List.length_map]; exact small
    refine ⟨_, pss_cons (ps_for PassesOwn.never rfl (pi_list (pe_callB (call_sortedD rfl) (by rfl) T.sorted (by decide +kernel) (pa_cons (pv 1) pa_nil))) (pg_name (i := 2) scChkE.nd rfl (.inl rfl))
        (pss_one (ps_if (pt_not (pt_val (pe_call GN hr (by rfl) gN FN.kp bN .nil pass0 (pa_cons (pv 2) pa_nil)))) pss_never pss_nil)))
      (pss_one (ps_for PassesOwn.never rfl (pi_list (pe_callB (call_sortedD rfl) (by rfl) T.sorted (by decide +kernel) (pa_cons (pv 1) pa_nil))) (pg_name (i := 2) scChkE.nd rfl (.inl rfl))
        (pss_one (ps_if (pt_not (pt_val (pe_call GJ hr (by rfl) gJ FJ.kp bJ .nil pass0 (pa_cons (pv 0) (pa_cons (pe_dget (hu_of hr) (pv 1) (pv 2) (fun _ _ => rfl)) pa_nil))))) pss_never pss_nil)))), ?_⟩
    refine ⟨_, rfl, de, _, _, rfl, .inl he, keysE es, hn, fun ys p py _ np => ?_⟩
    refine ⟨p, rfl, ⟨_, SqL.of upd_same⟩, for_list (K := K) (a := p) (xs := ys.map V.str) (fun i σ H' => ∃ y, σ = [some (.ref dm), some (.ref de), y] ∧ H' = upd H p (.lst (ys.map V.str))) ⟨none, rfl, rfl⟩
      (fun i σ H' _ ⟨_, _, e⟩ => by rw [e]; exact SqL.of upd_same) ?_ ?_⟩
    · rintro i v σ H' hv ⟨y, rfl, rfl⟩
      obtain ⟨z, hz, rfl⟩ := List.mem_map.mp (List.mem_of_getElem? hv)
      obtain ⟨e, he1, rfl⟩ := List.mem_map.mp (py.mem_iff.mp hz)
      exact ⟨_, rfl, e.letter, rfl, name e he1, true, rfl, iteF ⟨_, rfl, rfl⟩⟩
    · rintro σ H' ⟨y, rfl, rfl⟩
      have s1 : Same H (upd H p (.lst (ys.map V.str))) := same_upd np
      refine ⟨_, rfl, de, _, _, rfl, .inl (s1 _ _ he), keysE es, hn, fun zs p2 pz _ np2 => ?_⟩
      have s2 := s1.trans (same_upd (o := .lst (zs.map V.str)) np2)
      have hz2 : (upd (upd H p (.lst (ys.map V.str))) p2 (.lst (zs.map V.str))) p2 = some (.lst (zs.map V.str)) := upd_same
      generalize upd (upd H p (.lst (ys.map V.str))) p2 (.lst (zs.map V.str)) = H2 at s2 hz2 ⊢
      refine ⟨p2, rfl, ⟨_, SqL.of hz2⟩, for_list (K := K) (a := p2) (xs := zs.map V.str) (fun i σ H' => ∃ y, σ = [some (.ref dm), some (.ref de), y] ∧ H' = H2) ⟨y, rfl, rfl⟩ (fun i σ H' _ ⟨_, _, e⟩ => by rw [e]; exact SqL.of hz2) ?_ ?_⟩
      · rintro i v σ H' hv ⟨y', rfl, rfl⟩
        obtain ⟨z, hz, rfl⟩ := List.mem_map.mp (List.mem_of_getElem? hv)
        obtain ⟨e, he1, rfl⟩ := List.mem_map.mp (pz.mem_iff.mp hz)
        have look : valV (endsK es) (Sum.inr (txt [e.letter])) = some (.ref e.pair) := end_at nd he1
        have got : DGet H' de (.str (txt [e.letter])) (some (.ref e.pair)) := look ▸ DGet.k (k := Sum.inr (txt [e.letter])) (s2 _ _ he)
        obtain ⟨a1, a2, a3, a4⟩ := pair e he1
        exact ⟨_, rfl, _, rfl, _, rfl, de, _, rfl, got, dm, e.pair, ms, e.lo, e.hi, rfl, s2 _ _ hm, s2 _ _ a1, a2, a3, a4, true, rfl, iteF ⟨_, rfl, rfl⟩⟩
      · rintro σ H' ⟨y', rfl, rfl⟩
        exact q _ s2
end


end T06

namespace T06
open PySem PySem.Spec PyProof.Rows L2 Tm ClX
abbrev sWInit : Stmt := inClass (topS 22) 2
theorem scWInit : FnScope ["self", "marks", "edges", "node", "name"] ["self", "marks", "edges"] (defScope sWInit) := ⟨rfl, rfl, rfl, by decide +kernel, rfl, by decide +kernel, by decide +kernel⟩
structure WebT (K : PySem.W.Frag) (mg : Str → Option Value) (C : Addr) : Prop where
  cl : Cls K C
  nM : NoAttr K C "marks"
  nP : NoAttr K C "pairs"
  nS : NoAttr K C "stars"
  tuple : mg "tuple" = none
section
variable {P : Program} {w : World} {K : PySem.W.Frag} {mg : Str → Option Value} {base : Heap}
set_option maxHeartbeats 2000000 in
theorem ok_winit {f fM fD C : Addr} {mc : Value} {fd fdM fdD : FuncData} (F : Fun K "__init__" "Web.__init__" sWInit f fd)
    (GM : FnOk P w K mg base CX0 2 fM fdM ["marks"] spChkM) (FM : Fun K "check_marks" "check_marks" sChkM fM fdM) (bM : Binds K fdM ["marks"] []) (gM : mg "check_marks" = some (.ref fM))
    (GD : FnOk P w K mg base CX0 2 fD fdD ["marks", "edges"] spChkE) (FD : Fun K "check_edges" "check_edges" sChkE fD fdD) (bD : Binds K fdD ["marks", "edges"] []) (gD : mg "check_edges" = some (.ref fD))
    (T : ChkT K mg C mc) (U : WebT K mg C) : FnOk P w K mg base CX0 3 f fd ["self", "marks", "edges"] (spWInit C) := by
  refine F.ok scWInit (fun vs H Q E h => ?_) (fun cdv A outer s H vs Q E hr h => ?_)
  · obtain ⟨x, dx, dm, de, ms, es, rfl, _⟩ := h
    rfl
  · obtain ⟨x, dx, dm, de, ms, es, rfl, hx, hm, he, mok, eok, hand⟩ := h
    refine ⟨_, pss_cons (ps_expr (pe_call GM hr (by rfl) gM FM.kp bM .nil pass0 (pa_cons (pv 1) pa_nil)))
      (pss_cons (ps_expr (pe_call GD hr (by rfl) gD FD.kp bD .nil pass0 (pa_cons (pv 1) (pa_cons (pv 2) pa_nil))))
      (pss_cons (ps_fld (pv 0) (pe_dc (own := [("node", 3)]) (g := gName 3) (tt := tYes) rfl scWInit.nd (pi_list (pe_callB (call_sortedDI rfl) (by rfl) T.sorted (by decide +kernel) (pa_cons (pv 1) pa_nil))) (blkOk_by (own := [("node", 3)]) (N := ["self", "marks", "edges", "node", "name"]) (sc := defScope sWInit) (by decide +kernel)) (fun _ _ _ _ _ => pg_name (i := 3) scWInit.nd rfl (Or.inl rfl)) (fun _ _ _ _ _ => pts_nil)
        (fun _ _ _ _ _ => pv 3) (fun _ _ _ _ _ => pe_dget (hu_of hr) (pv 1) (pv 3) (fun _ _ => rfl))) rfl)
      (pss_cons (ps_fld (pv 0) (pe_dc (own := [("name", 4)]) (g := gName 4) (tt := tYes) rfl scWInit.nd (pi_list (pe_callB (call_sortedD rfl) (by rfl) T.sorted (by decide +kernel) (pa_cons (pv 2) pa_nil))) (blkOk_by (own := [("name", 4)]) (N := ["self", "marks", "edges", "node", "name"]) (sc := defScope sWInit) (by decide +kernel)) (fun _ _ _ _ _ => pg_name (i := 4) scWInit.nd rfl (Or.inl rfl)) (fun _ _ _ _ _ => pts_nil)
        (fun _ _ _ _ _ => pv 4) (fun _ _ _ _ _ => pe_callTy tupNew (by rfl) U.tuple boot_tuple (pa_cons (pe_callB sortPair (by rfl) T.sorted (by decide +kernel) (pa_cons (pe_dget (hu_of hr) (pv 2) (pv 4) (fun _ _ => rfl)) pa_nil)) pa_nil))) rfl)
      (pss_cons (ps_fld (pv 0) pe_dnewK rfl)
      (pss_one (ps_lock (ps_for PassesOwn.never rfl (pi_keys (pe_fld (pv 0) rfl)) (pg_name (i := 3) scWInit.nd rfl (.inr rfl))
        (pss_one (ps_dput (hu_of hr) (pe_fld (pv 0) rfl) (pv 3) (pe_join pe_str (pe_lock (pe_lc (own := [("name", 4)]) (g := gName 4) rfl scWInit.nd (pi_keys (pe_fld (pv 0) rfl)) (blkOk_by (own := [("name", 4)]) (N := ["self", "marks", "edges", "node", "name"]) (sc := defScope sWInit) (by decide +kernel)) (fun _ _ _ _ _ => pg_name (i := 4) scWInit.nd rfl (Or.inl rfl))
          (fun _ _ _ _ _ => pts_one (pt_cmpR (show OpR _ _ (rIn K false) from op_in_seq) (pv 3) (pe_dget (hu_of hr) (show PE _ _ (tFld K (tVar 0) (Str.ofString "pairs")) from pe_fld (pv 0) rfl) (pv 4) (fun _ _ => rfl)) (by rfl))) (fun _ _ _ _ _ => pv 4)))) rfl))))))))), ?_⟩
    refine ⟨_, rfl, dm, ms, rfl, hm, mok, fun H1 s1 => ?_⟩
    refine ⟨_, rfl, _, rfl, dm, de, ms, es, rfl, s1 _ _ hm, s1 _ _ he, eok.same s1, fun H2 s2 => ?_⟩
    obtain ⟨mnd, mfew, mnode, mmark⟩ := mok
    obtain ⟨end_, efew, ename, epair⟩ := eok
    have s12 := s1.trans s2
    -- self.marks
    dsimp only
    refine cut (t1 := sFld K (tVar 0) (tDc _ _ _ _ _ _) (Str.ofString "marks")) (fun σ' H' => ∃ (a1 : Addr) (ms' : List (Int × Int)), σ' = [some (.ref x), some (.ref dm), some (.ref de), none, none] ∧ Kp x H H' ∧ H a1 = none ∧ H' x = some (.ins C dx (putF "marks" (.ref a1) [])) ∧ H' a1 = some (.dK (marksK ms')) ∧ ms'.Perm ms ∧ (ms'.map (·.1)).Pairwise (· < ·)) (fun σ1 H3 hp => ?tail1) (fun N1 hN1 => ?head1)
    case head1 =>
      refine fld_dc (fun J Hs => ∃ (ms' : List (Int × Int)) (p : Addr), J = Itl K p ∧ ms'.Perm ms ∧ (ms'.map (·.1)).Pairwise (· < ·) ∧ Same H2 Hs ∧ Hs p = some (.lst ((ms'.map (·.1)).map V.int)))
        (fun R hR => ⟨_, rfl, dm, _, _, rfl, .inl (s12 _ _ hm), keysM ms, by rw [List.length_map]; exact mfew, fun ks p pk rk np => ⟨p, rfl, ⟨_, SqL.of upd_same⟩, ?_⟩⟩) ?_
      · obtain ⟨ms', pm, rfl⟩ := perm_lift (·.1) ks ms pk
        exact hR _ _ ⟨ms', p, rfl, pm, rise_lt rk (pk.nodup_iff.mpr mnd), same_upd np, upd_same⟩
      · rintro J Hs ⟨ms', p, rfl, pm, rise, sm, hp⟩
        have nd' : (ms'.map (·.1)).Nodup := rise.imp fun hab e => by rw [e] at hab; exact Int.lt_irrefl _ hab
        have w := walk_list (K := K) (a := p) (xs := (ms'.map (·.1)).map V.int)
        have wl : ((ms'.map (·.1)).map V.int).length = ms'.length := by rw [List.length_map, List.length_map]
        rw [wl] at w
        refine dc_walk w (fun D i H' => Same Hs H' ∧ H' D = some (.dK (marksK (ms'.take i)))) (fun D fresh => ⟨same_upd fresh, upd_same⟩) (fun D i H' _ hv => SqL.of (hv.1 _ _ hp)) ?_ ?_
        · rintro D i v H4 H5 fresh hi ⟨sD, hD⟩ ⟨rfl, hv⟩
          have ev : v = V.int ms'[i].1 := by
            rw [List.map_map, List.getElem?_map, List.getElem?_eq_getElem hi] at hv
            exact (Option.some.inj hv).symm
          subst ev
          have look : valV (marksK ms) (Sum.inl ms'[i].1) = some (.int ms'[i].2) := mark_at mnd (pm.mem_iff.mp (List.getElem_mem hi))
          have got : DGet H5 dm (.int ms'[i].1) (some (.int ms'[i].2)) := look ▸ DGet.k (k := Sum.inl ms'[i].1) (sD _ _ (sm _ _ (s12 _ _ hm)))
          refine ⟨rfl, ?_⟩
          refine ⟨_, rfl, _, rfl, _, rfl, dm, _, rfl, got, _, Sum.inl ms'[i].1, rfl, hD, ?_, same_put sD fresh, ?_⟩
          · unfold marksK
            rw [List.length_map, List.length_take]
            have := pm.length_eq
            exact small1000 (by omega)
          · rw [upd_same, marksK_take hi nd']
        · rintro D H4 fresh ⟨sD, hD⟩
          have nDx : x ≠ D := ne_of_none (sm _ _ (s12 _ _ hx)) fresh
          rw [List.take_length] at hD
          refine ⟨_, rfl, x, C, dx, [], rfl, sD _ _ (sm _ _ (s12 _ _ hx)), U.cl, U.nM, (by show 0 < 1000; decide), ?_⟩
          refine hN1 _ _ ⟨D, ms', rfl, ?_, (s12.trans sm).free fresh, upd_same, by rw [upd_ne nDx.symm]; exact hD, pm, rise⟩
          exact fun q o nq hq => by rw [upd_ne nq]; exact sD _ _ (sm _ _ (s12 _ _ hq))
    case tail1 =>
    obtain ⟨a1, ms', rfl, K3, fa1, hx3, ha1, pm, rise⟩ := hp
    have nxd : de ≠ x := ne_of he hx (by intro z; cases z)
    have nxm : dm ≠ x := ne_of hm hx (by intro z; cases z)
    have epx : ∀ e ∈ es, e.pair ≠ x := fun e hee => ne_of (epair e hee).1 hx (by intro z; cases z)
    have na1x : a1 ≠ x := fun z => by rw [z, hx] at fa1; cases fa1
    -- self.pairs
    refine cut (t1 := sFld K (tVar 0) (tDc _ _ _ _ _ _) (Str.ofString "pairs")) (fun σ' H' => ∃ (a2 : Addr) (es' : List Edg), σ' = [some (.ref x), some (.ref dm), some (.ref de), none, none] ∧ Kp x H H' ∧ H a2 = none ∧ a2 ≠ a1 ∧ H' x = some (.ins C dx (putF "pairs" (.ref a2) (putF "marks" (.ref a1) []))) ∧ H' a1 = some (.dK (marksK ms')) ∧ H' a2 = some (.dK (endsK es'))
        ∧ (es'.map (·.letter)).Pairwise (· < ·) ∧ (es'.map fun e => (e.letter, e.lo, e.hi)).Perm (es.map fun e => (e.letter, min e.lo e.hi, max e.lo e.hi)) ∧ ∀ e ∈ es', H' e.pair = some (.tup [.int e.lo, .int e.hi])) (fun σ1 H6 hp => ?tail2) (fun N2 hN2 => ?head2)
    case head2 =>
      refine fld_dc (fun J Hs => ∃ (e1 : List Edg) (p : Addr), J = Itl K p ∧ e1.Perm es ∧ (e1.map (·.letter)).Pairwise (· < ·) ∧ Same H3 Hs ∧ Hs p = some (.lst ((e1.map fun e => txt [e.letter]).map V.str)))
        (fun R hR => ⟨_, rfl, de, _, _, rfl, .inl (K3 _ _ nxd he), keysE es, by rw [List.length_map]; exact efew, fun ys p py ry np => ⟨p, rfl, ⟨_, SqL.of upd_same⟩, ?_⟩⟩) ?_
      · obtain ⟨e1, pe, rfl⟩ := perm_lift (fun e : Edg => txt [e.letter]) ys es py
        refine hR _ _ ⟨e1, p, rfl, pe, ?_, same_upd np, upd_same⟩
        have r2 : sortedS ((e1.map (·.letter)).map fun d => txt [d]) = true := by
          rw [List.map_map]
          exact ry
        exact letters_rise r2 ((pe.map _).nodup_iff.mpr end_)
      · rintro J Hs ⟨e1, p, rfl, pe, rise1, sm, hp⟩
        have w := walk_list (K := K) (a := p) (xs := (e1.map fun e => txt [e.letter]).map V.str)
        have wl : ((e1.map fun e => txt [e.letter]).map V.str).length = e1.length := by rw [List.length_map, List.length_map]
        rw [wl] at w
        refine dc_walk w (fun D i H' => Same Hs H' ∧ ∃ e2 : List Edg, H' D = some (.dK (endsK e2)) ∧ e2.length = i ∧ (e2.map fun e => (e.letter, e.lo, e.hi)) = (e1.take i).map (fun e => (e.letter, min e.lo e.hi, max e.lo e.hi)) ∧ ∀ e ∈ e2, H' e.pair = some (.tup [.int e.lo, .int e.hi]))
          (fun D fresh => ⟨same_upd fresh, [], upd_same, rfl, rfl, fun e hee => absurd hee List.not_mem_nil⟩) (fun D i H' _ hv => SqL.of (hv.1 _ _ hp)) ?_ ?_
        · rintro D i v H4 H5 fresh hi ⟨sD, e2, hD, l2, em, et⟩ ⟨rfl, hv⟩
          have ev : v = V.str (txt [e1[i].letter]) := by
            rw [List.map_map, List.getElem?_map, List.getElem?_eq_getElem hi] at hv
            exact (Option.some.inj hv).symm
          subst ev
          have mem : e1[i] ∈ es := pe.mem_iff.mp (List.getElem_mem hi)
          have look : valV (endsK es) (Sum.inr (txt [e1[i].letter])) = some (.ref e1[i].pair) := end_at end_ mem
          have up5 : ∀ q o, q ≠ x → H q = some o → H5 q = some o := fun q o nq hq => sD _ _ (sm _ _ (K3 q o nq hq))
          have got : DGet H5 de (.str (txt [e1[i].letter])) (some (.ref e1[i].pair)) := look ▸ DGet.k (k := Sum.inr (txt [e1[i].letter])) (up5 _ _ nxd he)
          refine ⟨rfl, ?_⟩
          refine ⟨_, rfl, _, rfl, _, rfl, de, _, rfl, got, e1[i].pair, e1[i].lo, e1[i].hi, rfl, up5 _ _ (epx _ mem) (epair _ mem).1, fun l nl => ?_⟩
          refine ⟨l, _, rfl, upd_same, fun t nt => ?_⟩
          have sl : Same H5 (upd H5 l (.lst [.int (min e1[i].lo e1[i].hi), .int (max e1[i].lo e1[i].hi)])) := same_upd nl
          have st := sl.trans (same_upd (o := .tup [.int (min e1[i].lo e1[i].hi), .int (max e1[i].lo e1[i].hi)]) nt)
          have ntD : t ≠ D := fun z => by rw [z, sl _ _ hD] at nt; cases nt
          have fresh2 : (Sum.inr (txt [e1[i].letter]) : Key) ∉ (endsK e2).map (·.1) := fun z => by
            unfold endsK at z
            rw [List.map_map] at z
            obtain ⟨e, hee, ez⟩ := List.mem_map.mp z
            have ez2 : e.letter = e1[i].letter := List.head_eq_of_cons_eq (txt_inj (Sum.inr.inj ez))
            have lm : e.letter ∈ (e1.take i).map (·.letter) := by
              have q1 : (e2.map fun e => (e.letter, e.lo, e.hi)).map (·.1) = ((e1.take i).map fun e => (e.letter, min e.lo e.hi, max e.lo e.hi)).map (·.1) := by rw [em]
              rw [List.map_map, List.map_map] at q1
              have q2 : e2.map (·.letter) = (e1.take i).map (·.letter) := q1
              rw [← q2]
              exact List.mem_map.mpr ⟨e, hee, rfl⟩
            rw [ez2] at lm
            obtain ⟨j, hj, ej⟩ := List.mem_iff_getElem.mp lm
            rw [List.length_map, List.length_take] at hj
            rw [List.getElem_map, List.getElem_take] at ej
            have up := List.pairwise_iff_getElem.mp rise1 j i (by rw [List.length_map]; omega) (by rw [List.length_map]; exact hi) (by omega)
            rw [List.getElem_map, List.getElem_map, ej] at up
            exact Nat.lt_irrefl _ up
          refine ⟨_, Sum.inr (txt [e1[i].letter]), rfl, st _ _ hD, ?_, same_put (sD.trans st) fresh, e2 ++ [⟨e1[i].letter, t, min e1[i].lo e1[i].hi, max e1[i].lo e1[i].hi⟩], ?_, by rw [List.length_append, l2]; rfl, ?_, ?_⟩
          · unfold endsK
            rw [List.length_map, l2]
            have := pe.length_eq
            exact small1000 (by omega)
          · rw [upd_same, putK_new _ (valV_fresh fresh2)]
            unfold endsK
            rw [List.map_append]
            rfl
          · rw [List.map_append, em, List.take_succ_eq_append_getElem hi, List.map_append]
            rfl
          · intro e hee
            rcases List.mem_append.mp hee with q | q
            · have old := et e q
              have nD' : e.pair ≠ D := fun z => by rw [z, hD] at old; cases old
              rw [upd_ne nD']
              exact st _ _ old
            · rw [List.mem_singleton.mp q]
              show (upd (upd _ t _) D _) t = _
              rw [upd_ne ntD, upd_same]
        · rintro D H4 fresh ⟨sD, e2, hD, l2, em, et⟩
          have hx4 := sD _ _ (sm _ _ hx3)
          have nDx : x ≠ D := ne_of_none (sm _ _ hx3) fresh
          have nDa : a1 ≠ D := ne_of_none (sm _ _ ha1) fresh
          have fH : H D = none := by
            cases hq : H D with
            | none => rfl
            | some o =>
              have z := sm _ _ (K3 D o nDx.symm hq)
              rw [fresh] at z
              cases z
          rw [List.take_length] at em
          refine ⟨_, rfl, x, C, dx, _, rfl, hx4, U.cl, U.nP, (by show 1 < 1000; decide), ?_⟩
          refine hN2 _ _ ⟨D, e2, rfl, ?_, fH, nDa.symm, upd_same, by rw [upd_ne na1x]; exact sD _ _ (sm _ _ ha1), by rw [upd_ne nDx.symm]; exact hD, ?_, ?_, ?_⟩
          · exact fun q o nq hq => by rw [upd_ne nq]; exact sD _ _ (sm _ _ (K3 q o nq hq))
          · have q1 : (e2.map fun e => (e.letter, e.lo, e.hi)).map (·.1) = (e1.map fun e => (e.letter, min e.lo e.hi, max e.lo e.hi)).map (·.1) := by rw [em]
            rw [List.map_map, List.map_map] at q1
            have q2 : e2.map (·.letter) = e1.map (·.letter) := q1
            rw [q2]
            exact rise1
          · rw [em]
            exact pe.map _
          · intro e hee
            have old := et e hee
            have nx : e.pair ≠ x := ne_of old hx4 (by intro z; cases z)
            rw [upd_ne nx]
            exact old
    case tail2 =>
    obtain ⟨a2, es', rfl, K6, fa2, na21, hx6, ha16, ha26, erise, eperm, etup⟩ := hp
    -- self.stars
    intro a3 na3
    have hx7 := (same_upd (o := .dK []) na3) _ _ hx6
    have na3x : a3 ≠ x := fun z => by rw [z, hx6] at na3; cases na3
    have na31 : a3 ≠ a1 := fun z => by rw [z, ha16] at na3; cases na3
    have na32 : a3 ≠ a2 := fun z => by rw [z, ha26] at na3; cases na3
    have na2x : a2 ≠ x := fun z => by rw [z, hx] at fa2; cases fa2
    refine ⟨_, rfl, x, C, dx, _, rfl, hx7, U.cl, U.nS, (by show 2 < 1000; decide), ?_⟩
    have K8 : Kp x H (upd (upd H6 a3 (.dK [])) x (.ins C dx (webF a1 a2 a3))) := fun q o nq hq => by
      rw [upd_ne nq]
      exact (same_upd na3) _ _ (K6 q o nq hq)
    have hx8 : (upd (upd H6 a3 (.dK [])) x (.ins C dx (webF a1 a2 a3))) x = some (.ins C dx (webF a1 a2 a3)) := upd_same
    have h18 : (upd (upd H6 a3 (.dK [])) x (.ins C dx (webF a1 a2 a3))) a1 = some (.dK (marksK ms')) := by rw [upd_ne na1x]; exact (same_upd na3) _ _ ha16
    have h28 : (upd (upd H6 a3 (.dK [])) x (.ins C dx (webF a1 a2 a3))) a2 = some (.dK (endsK es')) := by rw [upd_ne na2x]; exact (same_upd na3) _ _ ha26
    have h38 : (upd (upd H6 a3 (.dK [])) x (.ins C dx (webF a1 a2 a3))) a3 = some (.dK []) := by rw [upd_ne na3x, upd_same]
    have t8 : ∀ e ∈ es', (upd (upd H6 a3 (.dK [])) x (.ins C dx (webF a1 a2 a3))) e.pair = some (.tup [.int e.lo, .int e.hi]) := fun e hee => by
      have nx : e.pair ≠ x := ne_of (etup e hee) hx6 (by intro z; cases z)
      rw [upd_ne nx]
      exact (same_upd na3) _ _ (etup e hee)
    have f3 : H a3 = none := by
      cases hq : H a3 with
      | none => rfl
      | some o =>
        have z := K6 a3 o na3x hq
        rw [na3] at z
        cases z
    show tLock _ _ _ (upd (upd H6 a3 (.dK [])) x (.ins C dx (webF a1 a2 a3)))
    generalize upd (upd H6 a3 (.dK [])) x (.ins C dx (webF a1 a2 a3)) = H8 at K8 hx8 h18 h28 h38 t8 ⊢
    refine ⟨a1, _, h18, trivial, fun od => ?_⟩
    have nd' : (ms'.map (·.1)).Nodup := rise.imp fun hab e => by rw [e] at hab; exact Int.lt_irrefl _ hab
    have elen : es'.length = es.length := by
      have q := eperm.length_eq
      rw [List.length_map, List.length_map] at q
      exact q
    have end' : (es'.map (·.letter)).Nodup := erise.imp fun hab e => by rw [e] at hab; exact Nat.lt_irrefl _ hab
    have hx9 : (upd H8 a1 (.frz od (.dK (marksK ms')))) x = some (.ins C dx (webF a1 a2 a3)) := by rw [upd_ne na1x.symm]; exact hx8
    have h19 : (upd H8 a1 (.frz od (.dK (marksK ms')))) a1 = some (.frz od (.dK (marksK ms'))) := upd_same
    have h29 : (upd H8 a1 (.frz od (.dK (marksK ms')))) a2 = some (.dK (endsK es')) := by rw [upd_ne na21]; exact h28
    have h39 : (upd H8 a1 (.frz od (.dK (marksK ms')))) a3 = some (.dK []) := by rw [upd_ne na31]; exact h38
    have t9 : ∀ e ∈ es', (upd H8 a1 (.frz od (.dK (marksK ms')))) e.pair = some (.tup [.int e.lo, .int e.hi]) := fun e hee => by
      have n1 : e.pair ≠ a1 := ne_of (t8 e hee) h18 (by intro z; cases z)
      rw [upd_ne n1]
      exact t8 e hee
    have back : ∀ q o, q ≠ x → H q = some o → q ≠ a1 → (upd H8 a1 (.frz od (.dK (marksK ms')))) q = some o := fun q o nq hq n1 => by
      rw [upd_ne n1]
      exact K8 q o nq hq
    generalize upd H8 a1 (.frz od (.dK (marksK ms'))) = H9 at hx9 h19 h29 h39 t9 back ⊢
    refine ⟨_, rfl, x, C, dx, _, _, rfl, hx9, U.cl, U.nM, webF_marks _ _ _, a1, od, rfl, .inl ⟨marksK ms', h19, ?_⟩⟩
    have wk := walk_keys (d := a1) (o := od) (kvs := marksK ms')
    have wkl : (marksK ms').length = ms'.length := by unfold marksK; rw [List.length_map]
    rw [wkl] at wk
    refine for_it wk (fun i σ H' => ∃ y, σ = [some (.ref x), some (.ref dm), some (.ref de), y, none] ∧ Kp a3 H9 H' ∧ H' a3 = some (.dK (starsK (ms'.take i) es'))) ⟨none, rfl, Kp.refl _ _, h39⟩ (fun i σ H' _ ⟨_, _, kp, _⟩ => kp _ _ na31.symm h19) ?_ ?_
    · rintro i v σ H10 H11 hi ⟨y, rfl, kp, h3⟩ ⟨rfl, k, vv, hkv, rfl⟩
      have ek : k = Sum.inl ms'[i].1 := by
        unfold marksK at hkv
        rw [List.getElem?_map, List.getElem?_eq_getElem hi] at hkv
        exact (congrArg Prod.fst (Option.some.inj hkv)).symm
      subst ek
      have hx10 := kp _ _ na3x.symm hx9
      have h210 := kp _ _ na32.symm h29
      have t10 : ∀ e ∈ es', H11 e.pair = some (.tup [.int e.lo, .int e.hi]) := fun e hee => kp _ _ (ne_of (t9 e hee) h39 (by intro z; cases z)) (t9 e hee)
      refine ⟨⟨_, rfl⟩, a2, _, h210, trivial, fun o2 => ?_⟩
      have hx12 : (upd H11 a2 (.frz o2 (.dK (endsK es')))) x = some (.ins C dx (webF a1 a2 a3)) := by rw [upd_ne na2x.symm]; exact hx10
      have t12 : ∀ e ∈ es', (upd H11 a2 (.frz o2 (.dK (endsK es')))) e.pair = some (.tup [.int e.lo, .int e.hi]) := fun e hee => by
        have n2 : e.pair ≠ a2 := ne_of (t10 e hee) h210 (by intro z; cases z)
        rw [upd_ne n2]
        exact t10 e hee
      refine ⟨_, rfl, x, C, dx, _, _, rfl, hx12, U.cl, U.nP, webF_pairs _ _ _, a2, o2, rfl, .inl ⟨endsK es', upd_same, fun D nD => ?_⟩⟩
      have we := walk_keys (d := a2) (o := o2) (kvs := endsK es')
      have wel : (endsK es').length = es'.length := by unfold endsK; rw [List.length_map]
      rw [wel] at we
      refine lc_it we (fun j H' => Same (upd H11 a2 (.frz o2 (.dK (endsK es')))) H' ∧ H' D = some (.lst ((star (es'.take j) ms'[i].1).map sig))) ⟨same_upd nD, upd_same⟩ (fun j H' _ hv => hv.1 _ _ upd_same) ?_ ?_
      · rintro j v H13 H14 hj ⟨sD, hD⟩ ⟨rfl, k2, v2, hk2, rfl⟩
        have ek2 : k2 = Sum.inr (txt [es'[j].letter]) := by
          unfold endsK at hk2
          rw [List.getElem?_map, List.getElem?_eq_getElem hj] at hk2
          exact (congrArg Prod.fst (Option.some.inj hk2)).symm
        subst ek2
        have look : valV (endsK es') (Sum.inr (txt [es'[j].letter])) = some (.ref es'[j].pair) := end_at end' (List.getElem_mem hj)
        have got : DGet H14 a2 (.str (txt [es'[j].letter])) (some (.ref es'[j].pair)) := .inl ⟨endsK es', Sum.inr (txt [es'[j].letter]), .inr ⟨o2, sD _ _ upd_same⟩, rfl, look.symm⟩
        refine ⟨rfl, ?_⟩
        refine ⟨_, rfl, _, rfl, x, C, dx, _, _, rfl, sD _ _ hx12, U.cl, U.nP, webF_pairs _ _ _, _, rfl, a2, _, rfl, got, es'[j].pair, _, rfl, .inr (.inl (.inl (sD _ _ (t12 _ (List.getElem_mem hj))))), rfl, rfl, _, rfl, ?_⟩
        show if inV (.int ms'[i].1) [.int es'[j].lo, .int es'[j].hi] = true then _ else _
        rw [in_two]
        refine ite2 (fun c => ?_) (fun c => ?_)
        · have c' := of_decide_eq_true c
          refine ⟨_, rfl, _, hD, ?_, same_put sD nD, ?_⟩
          · rw [List.length_map]
            have q1 := star_len (es'.take j) ms'[i].1
            rw [List.length_take] at q1
            exact small1000 (by omega)
          · rw [upd_same, star_take hj, if_pos c', List.map_append]
            rfl
        · have c' : ¬ (es'[j].lo = ms'[i].1 ∨ es'[j].hi = ms'[i].1) := fun z => c (decide_eq_true z)
          refine ⟨sD, ?_⟩
          rw [star_take hj, if_neg c', List.append_nil]
          exact hD
      · rintro H13 ⟨sD, hD⟩
        rw [List.take_length] at hD
        have un : Same H11 (upd H13 a2 (.dK (endsK es'))) := unlock h210 sD
        have nDa2 : D ≠ a2 := fun z => by rw [z, upd_same] at nD; cases nD
        have hD2 : (upd H13 a2 (.dK (endsK es'))) D = some (.lst (((star es' ms'[i].1).map fun c => txt [c]).map V.str)) := by
          rw [upd_ne nDa2, hD, List.map_map]
          rfl
        have sl := star_len es' ms'[i].1
        refine ⟨sD _ _ upd_same, Str.ofString "", D, (star es' ms'[i].1).map (fun c => txt [c]), rfl, rfl, .inl (SqL.of hD2), ?_, ?_⟩
        · rw [len_ones, txt_empty, txt_len]
          simp
          omega
        rw [join_sigs]
        have h3' := un _ _ h3
        refine ⟨_, rfl, x, C, dx, _, _, rfl, un _ _ hx10, U.cl, U.nS, webF_stars _ _ _, _, rfl, a3, _, rfl, DPut.k (k := Sum.inl ms'[i].1) h3' ?_, ?_⟩
        · unfold starsK
          rw [List.length_map, List.length_take]
          have := pm.length_eq
          exact small1000 (by omega)
        refine ⟨_, rfl, fun q o nq hq => ?_, ?_⟩
        · rw [upd_ne nq]
          exact un _ _ (kp q o nq hq)
        · rw [upd_same, starsK_take hi nd']
    · rintro σ H10 ⟨y, rfl, kp, h3⟩
      rw [List.take_length] at h3
      refine ⟨kp _ _ na31.symm h19, ?_⟩
      have hx10 := kp _ _ na3x.symm hx9
      refine hand _ ms' es' ?_ ⟨dx, a1, a2, a3, by rw [upd_ne na1x.symm]; exact hx10, upd_same, by rw [upd_ne na21]; exact kp _ _ na32.symm h29, by rw [upd_ne na31]; exact h3, ?_⟩ ⟨pm, eperm⟩
      · intro q o nq hq
        have n1 : q ≠ a1 := fun z => by rw [z, fa1] at hq; cases hq
        have n3 : q ≠ a3 := fun z => by rw [z, f3] at hq; cases hq
        rw [upd_ne n1]
        exact kp _ _ n3 (back q o nq hq n1)
      · have memE : ∀ e ∈ es', ∃ e0 ∈ es, e.letter = e0.letter ∧ e.lo = min e0.lo e0.hi ∧ e.hi = max e0.lo e0.hi := fun e hee => by
          obtain ⟨e0, h0, q0⟩ := List.mem_map.mp (eperm.mem_iff.mp (List.mem_map.mpr ⟨e, hee, rfl⟩))
          have a := congrArg Prod.fst q0
          have b := congrArg (fun z => z.2.1) q0
          have c := congrArg (fun z => z.2.2) q0
          exact ⟨e0, h0, a.symm, b.symm, c.symm⟩
        have keyP : ∀ n, n ∈ ms.map (·.1) → n ∈ ms'.map (·.1) := fun n hn => (pm.map _).mem_iff.mpr hn
        refine ⟨rise, fun m hmm => mnode m (pm.mem_iff.mp hmm), fun m hmm => mmark m (pm.mem_iff.mp hmm), erise, ?_, ?_, ?_, ?_⟩
        · intro e hee
          obtain ⟨e0, h0, q1, _, _⟩ := memE e hee
          rw [q1]
          exact ename e0 h0
        · intro e hee
          have n1 : e.pair ≠ a1 := ne_of (t9 e hee) h19 (by intro z; cases z)
          have n3 : e.pair ≠ a3 := ne_of (t9 e hee) h39 (by intro z; cases z)
          rw [upd_ne n1]
          exact kp _ _ n3 (t9 e hee)
        · intro e hee
          obtain ⟨e0, h0, _, q2, q3⟩ := memE e hee
          have := (epair e0 h0).2.1
          omega
        · intro e hee
          obtain ⟨e0, h0, _, q2, q3⟩ := memE e hee
          obtain ⟨_, _, m1, m2⟩ := epair e0 h0
          constructor
          · rw [q2]
            rcases Int.le_total e0.lo e0.hi with c | c
            · rw [Int.min_eq_left c]; exact keyP _ m1
            · rw [Int.min_eq_right c]; exact keyP _ m2
          · rw [q3]
            rcases Int.le_total e0.lo e0.hi with c | c
            · rw [Int.max_eq_right c]; exact keyP _ m2
            · rw [Int.max_eq_left c]; exact keyP _ m1
end


end T06

namespace T06
open PySem PySem.Spec PyProof.Rows L2 Tm
abbrev sFive : Stmt := topS 31
theorem scFive : FnScope [] [] (defScope sFive) := ⟨rfl, rfl, rfl, by decide +kernel, rfl, by decide +kernel, by decide +kernel⟩
section
variable {P : Program} {w : World} {K : PySem.W.Frag} {mg : Str → Option Value} {base : Heap}
theorem ok_five {f : Addr} {fd : FuncData} (F : Fun K "_law_five" "_law_five" sFive f fd) : FnOk P w K mg base CX0 1 f fd [] (spPairs fiveP) := by
  refine F.ok scFive (fun vs H Q E h => ?_) (fun cdv A outer s H vs Q E hr h => ?_)
  · obtain ⟨rfl, _⟩ := h
    rfl
  · obtain ⟨rfl, q⟩ := h
    refine ⟨_, pss_one (ps_ret (pe_lst (pa_cons (pe_tup (pa_cons pe_int (pa_cons pe_int pa_nil))) (pa_cons (pe_tup (pa_cons pe_int (pa_cons pe_int pa_nil))) (pa_cons (pe_tup (pa_cons pe_int (pa_cons pe_int pa_nil))) (pa_cons (pe_tup (pa_cons pe_int (pa_cons pe_int pa_nil))) (pa_cons (pe_tup (pa_cons pe_int (pa_cons pe_int pa_nil))) (pa_cons (pe_tup (pa_cons pe_int (pa_cons pe_int pa_nil))) (pa_cons (pe_tup (pa_cons pe_int (pa_cons pe_int pa_nil))) (pa_cons (pe_tup (pa_cons pe_int (pa_cons pe_int pa_nil))) (pa_cons (pe_tup (pa_cons pe_int (pa_cons pe_int pa_nil))) (pa_cons (pe_tup (pa_cons pe_int (pa_cons pe_int pa_nil))) pa_nil)))))))))))), ?_⟩
    refine ⟨(by show 2 ≤ sizeLine; decide), fun q0 n0 => ?_⟩
    refine ⟨(by show 2 ≤ sizeLine; decide), fun q1 n1 => ?_⟩
    refine ⟨(by show 2 ≤ sizeLine; decide), fun q2 n2 => ?_⟩
    refine ⟨(by show 2 ≤ sizeLine; decide), fun q3 n3 => ?_⟩
    refine ⟨(by show 2 ≤ sizeLine; decide), fun q4 n4 => ?_⟩
    refine ⟨(by show 2 ≤ sizeLine; decide), fun q5 n5 => ?_⟩
    refine ⟨(by show 2 ≤ sizeLine; decide), fun q6 n6 => ?_⟩
    refine ⟨(by show 2 ≤ sizeLine; decide), fun q7 n7 => ?_⟩
    refine ⟨(by show 2 ≤ sizeLine; decide), fun q8 n8 => ?_⟩
    refine ⟨(by show 2 ≤ sizeLine; decide), fun q9 n9 => ?_⟩
    refine ⟨(by show 10 ≤ sizeLine; decide), fun p np => ?_⟩
    have laid : Laid H fiveP [q0, q1, q2, q3, q4, q5, q6, q7, q8, q9] _ := .cons n0 (.cons n1 (.cons n2 (.cons n3 (.cons n4 (.cons n5 (.cons n6 (.cons n7 (.cons n8 (.cons n9 (.nil _))))))))))
    exact q _ p (laid.same.trans (same_upd np)) (laid.same.free np) (pairs_laid laid np)
end
abbrev sSix : Stmt := topS 32
theorem scSix : FnScope [] [] (defScope sSix) := ⟨rfl, rfl, rfl, by decide +kernel, rfl, by decide +kernel, by decide +kernel⟩
section
variable {P : Program} {w : World} {K : PySem.W.Frag} {mg : Str → Option Value} {base : Heap}
theorem ok_six {f : Addr} {fd : FuncData} (F : Fun K "_law_six" "_law_six" sSix f fd) : FnOk P w K mg base CX0 1 f fd [] (spPairs sixP) := by
  refine F.ok scSix (fun vs H Q E h => ?_) (fun cdv A outer s H vs Q E hr h => ?_)
  · obtain ⟨rfl, _⟩ := h
    rfl
  · obtain ⟨rfl, q⟩ := h
    refine ⟨_, pss_one (ps_ret (pe_lst (pa_cons (pe_tup (pa_cons pe_int (pa_cons pe_int pa_nil))) (pa_cons (pe_tup (pa_cons pe_int (pa_cons pe_int pa_nil))) (pa_cons (pe_tup (pa_cons pe_int (pa_cons pe_int pa_nil))) (pa_cons (pe_tup (pa_cons pe_int (pa_cons pe_int pa_nil))) (pa_cons (pe_tup (pa_cons pe_int (pa_cons pe_int pa_nil))) (pa_cons (pe_tup (pa_cons pe_int (pa_cons pe_int pa_nil))) (pa_cons (pe_tup (pa_cons pe_int (pa_cons pe_int pa_nil))) (pa_cons (pe_tup (pa_cons pe_int (pa_cons pe_int pa_nil))) (pa_cons (pe_tup (pa_cons pe_int (pa_cons pe_int pa_nil))) pa_nil))))))))))), ?_⟩
    refine ⟨(by show 2 ≤ sizeLine; decide), fun q0 n0 => ?_⟩
    refine ⟨(by show 2 ≤ sizeLine; decide), fun q1 n1 => ?_⟩
    refine ⟨(by show 2 ≤ sizeLine; decide), fun q2 n2 => ?_⟩
    refine ⟨(by show 2 ≤ sizeLine; decide), fun q3 n3 => ?_⟩
    refine ⟨(by show 2 ≤ sizeLine; decide), fun q4 n4 => ?_⟩
    refine ⟨(by show 2 ≤ sizeLine; decide), fun q5 n5 => ?_⟩
    refine ⟨(by show 2 ≤ sizeLine; decide), fun q6 n6 => ?_⟩
    refine ⟨(by show 2 ≤ sizeLine; decide), fun q7 n7 => ?_⟩
    refine ⟨(by show 2 ≤ sizeLine; decide), fun q8 n8 => ?_⟩
    refine ⟨(by show 9 ≤ sizeLine; decide), fun p np => ?_⟩
    have laid : Laid H sixP [q0, q1, q2, q3, q4, q5, q6, q7, q8] _ := .cons n0 (.cons n1 (.cons n2 (.cons n3 (.cons n4 (.cons n5 (.cons n6 (.cons n7 (.cons n8 (.nil _)))))))))
    exact q _ p (laid.same.trans (same_upd np)) (laid.same.free np) (pairs_laid laid np)
end


end T06

namespace T06
open PySem PySem.Spec PyProof.Rows L2 Tm
abbrev sRen : Stmt := topS 33
theorem scRen : FnScope ["_law_bag_here", "_law_size", "_law_pairs_here", "_law_points", "_law_letters_here", "_law_marks", "_law_ends", "_law_at", "_law_one", "_law_other", "_law_first", "_law_last", "_law_point"] ["_law_bag_here", "_law_size", "_law_pairs_here"] (defScope sRen) := ⟨rfl, rfl, rfl, by decide +kernel, rfl, by decide +kernel, by decide +kernel⟩
section
variable {P : Program} {w : World} {K : PySem.W.Frag} {mg : Str → Option Value} {base : Heap}
set_option maxHeartbeats 2000000 in
theorem ok_ren {f fP fM fA : Addr} {fd fdP fdM fdA : FuncData} (F : Fun K "_law_renamed" "_law_renamed" sRen f fd)
    (FP : Fun K "_law_pull" "_law_pull" sPull fP fdP) (bP : Binds K fdP ["_law_bag_here", "_law_many"] []) (gP : mg "_law_pull" = some (.ref fP))
    (FM : Fun K "_law_mixed" "_law_mixed" sMixed fM fdM) (bM : Binds K fdM ["_law_bag_here", "_law_things"] []) (gM : mg "_law_mixed" = some (.ref fM))
    (FA : Fun K "_law_letters" "_law_letters" sLets fA fdA) (bA : Binds K fdA [] []) (gA : mg "_law_letters" = some (.ref fA)) (T : RawT mg) :
    FnOk P w K mg base CX0 3 f fd ["_law_bag_here", "_law_size", "_law_pairs_here"] spRen := by
  have GP : FnOk P w K mg base CX0 1 fP fdP ["_law_bag_here", "_law_many"] spPull := ok_pull FP T.len
  have GM : FnOk P w K mg base CX0 2 fM fdM ["_law_bag_here", "_law_things"] (spMixed K) := ok_mixed FM FP bP gP T.len T.list T.range
  have GA : FnOk P w K mg base CX0 1 fA fdA [] spLets := ok_lets FA
  refine F.ok scRen (fun vs H Q E h => ?_) (fun cdv A outer s H vs Q E hr h => ?_)
  · obtain ⟨b, l, size, pp, prs, rfl, _⟩ := h
    rfl
  · obtain ⟨b, l, size, pp, prs, rfl, B, prAt, npp, z0, z1, good, few, hand⟩ := h
    have hr1 : Room 1 _ := hr.mono (by decide)
    refine ⟨_, pss_cons (ps_set (i := 3) scRen.nd rfl (.inl rfl) (pe_slice sl_list (pe_call GM hr (by rfl) gM FM.kp bM .nil pass0 (pa_cons (pv 0) (pa_cons (pe_listRg rfl (by rfl) T.list (prg_1 (by rfl) T.range pe_int)) pa_nil))) po_none (po_some (pv 1))))
      (pss_cons (ps_set (i := 4) scRen.nd rfl (.inl rfl) (pe_call GM hr (by rfl) gM FM.kp bM .nil pass0 (pa_cons (pv 0) (pa_cons (pe_callTy (call_listS rfl) (by rfl) T.list boot_list (pa_cons (pe_call0 GA hr1 (by rfl) gA FA.kp bA .nil pass0) pa_nil)) pa_nil))))
      (pss_cons (ps_set (i := 5) scRen.nd rfl (.inl rfl) (pe_callTy (call_dictP rfl) (by rfl) T.dict (by decide +kernel) (pa_cons (pe_lc (own := [("_law_point", 12)]) (g := gName 12) (tt := tYes) rfl scRen.nd (pi_list (pe_callB cr_sorted (by rfl) T.sorted (by decide +kernel) (pa_cons (pv 3) pa_nil))) (blkOk_by (own := [("_law_point", 12)]) (N := ["_law_bag_here", "_law_size", "_law_pairs_here", "_law_points", "_law_letters_here", "_law_marks", "_law_ends", "_law_at", "_law_one", "_law_other", "_law_first", "_law_last", "_law_point"]) (sc := defScope sRen) (by decide +kernel))
          (fun _ _ _ _ _ => pg_name (i := 12) scRen.nd rfl (Or.inl rfl)) (fun _ _ _ _ _ => pts_nil) (fun _ _ _ _ _ => pe_tup (pa_cons (pv 12) (pa_cons (pe_call GP hr1 (by rfl) gP FP.kp bP .nil pass0 (pa_cons (pv 0) (pa_cons pe_int pa_nil))) pa_nil)))) pa_nil)))
      (pss_cons (ps_set (i := 6) scRen.nd rfl (.inl rfl) pe_dnewK)
      (pss_cons (ps_for PassesOwn.never rfl (pi_range1 (by rfl) T.range (pa_cons (pe_callB call_len_seq (by rfl) T.len PySem.boot_len (pa_cons (pv 2) pa_nil)) pa_nil)) (pg_name (i := 7) scRen.nd rfl (.inl rfl))
        (pss_cons (ps_asg (pe_ix ix_list (pv 2) (pv 7) (fun _ _ => rfl)) (pg_tup rfl (pgs_cons (pg_name (i := 8) scRen.nd rfl (.inl rfl)) (pgs_cons (pg_name (i := 9) scRen.nd rfl (.inl rfl)) pgs_nil))))
        (pss_cons (ps_par (i := 10) (j := 11) (by rfl) scRen.nd rfl rfl (by decide) rfl rfl (pa_cons (pe_ix ix_list (pv 3) (pv 8) (fun _ _ => rfl)) (pa_cons (pe_ix ix_list (pv 3) (pv 9) (fun _ _ => rfl)) pa_nil)) (by rfl))
        (pss_one (ps_dput (hu_of hr) (pv 6) (pe_ix ix_list (pv 4) (pv 7) (fun _ _ => rfl)) (pe_tup (pa_cons (pe_callB (call_min2 rfl) (by rfl) T.min (by decide +kernel) (pa_cons (pv 10) (pa_cons (pv 11) pa_nil))) (pa_cons (pe_callB (call_max2 rfl) (by rfl) T.max (by decide +kernel) (pa_cons (pv 10) (pa_cons (pv 11) pa_nil))) pa_nil))) rfl)))))
      (pss_one (ps_ret (pe_tup (pa_cons (pv 5) (pa_cons (pv 6) pa_nil))))))))), ?_⟩
    -- points
    refine ⟨_, rfl, 12, rfl, RgOk.of_le (by decide) (by decide) (by decide) (by decide), fun rg nrg => ?_⟩
    rw [rg12]
    have B2 : Bag (upd H rg (.lst (twelve.map V.int))) b l := B.new nrg
    refine ⟨b, l, rg, _, rfl, B2, B.nb nrg, SqL.of upd_same, by rw [List.length_map]; decide, fun H3 mx ys k3 B3 nmx hmx pm => ?_⟩
    obtain ⟨js, rfl, pj⟩ := perm_ints pm
    have nmxb : mx ≠ b := B2.nb nmx
    have jl : js.length = 12 := pj.length_eq
    refine ⟨_, rfl, _, rfl, mx, _, rfl, SqL.of hmx, fun pt npt => ?_⟩
    have esz : size = ((size.toNat : Nat) : Int) := by omega
    have ecut : cutV (js.map V.int) none (some size) = (js.take size.toNat).map V.int := by
      rw [esz, cutV_take, List.map_take]
      rfl
    rw [ecut]
    have pl : (js.take size.toNat).length = size.toNat := by rw [List.length_take]; omega
    have pnd : (js.take size.toNat).Nodup := (pj.nodup_iff.mpr twelve_nodup).sublist (List.take_sublist _ _)
    have pin : ∀ k ∈ js.take size.toNat, 0 ≤ k ∧ k < 12 := fun k hk => twelve_mem (pj.mem_iff.mp (List.mem_of_mem_take hk))
    have K4 : Kp b H (upd H3 pt (.lst ((js.take size.toNat).map V.int))) := (Kp.new nrg).trans (k3.trans (Kp.new npt))
    have B4 : Bag (upd H3 pt (.lst ((js.take size.toNat).map V.int))) b l := B3.new npt
    have hpt4 : (upd H3 pt (.lst ((js.take size.toNat).map V.int))) pt = some (.lst ((js.take size.toNat).map V.int)) := upd_same
    have nptb : pt ≠ b := B3.nb npt
    generalize js.take size.toNat = pts at pl pnd pin K4 B4 hpt4 ⊢
    generalize upd H3 pt (.lst (pts.map V.int)) = H4 at K4 B4 hpt4 ⊢
    -- letters
    refine ⟨_, rfl, rfl, _, rfl, by rw [txt_alpha, txt_len]; decide, fun ls nls => ?_⟩
    rw [txt_alpha, txt_cps]
    have B5 : Bag (upd H4 ls (.lst (alpha.map sig))) b l := B4.new nls
    refine ⟨b, l, ls, alpha.map sig, rfl, B5, B4.nb nls, SqL.of upd_same, by rw [List.length_map]; decide, fun H6 lt ys k6 B6 nlt hlt6 pm2 => ?_⟩
    obtain ⟨ds, rfl, pd⟩ := perm_sigs pm2
    have nltb : lt ≠ b := B5.nb nlt
    have dl : ds.length = 24 := pd.length_eq
    have dnd : ds.Nodup := pd.nodup_iff.mpr alpha_nodup
    have K6 : Kp b H H6 := K4.trans ((Kp.new nls).trans k6)
    have hpt6 : H6 pt = some (.lst (pts.map V.int)) := k6 _ _ nptb ((same_upd nls) _ _ hpt4)
    -- marks
    refine ⟨_, rfl, pt, _, rfl, SqL.of hpt6, by omega, fun ks po pk rk npo => ?_⟩
    have kl : ks.length = size.toNat := by rw [pk.length_eq, pl]
    have knd : ks.Nodup := pk.nodup_iff.mpr pnd
    have krise : ks.Pairwise (· < ·) := rise_lt rk knd
    have kin : ∀ k ∈ ks, 0 ≤ k ∧ k < 12 := fun k hk => pin k (pk.mem_iff.mp hk)
    have s6 : Same H6 (upd H6 po (.lst (ks.map V.int))) := same_upd npo
    have K4' : Kp b H (upd H6 po (.lst (ks.map V.int))) := K6.trans (Kp.new npo)
    have B4' : Bag (upd H6 po (.lst (ks.map V.int))) b l := B6.new npo
    have hpo4 : (upd H6 po (.lst (ks.map V.int))) po = some (.lst (ks.map V.int)) := upd_same
    have hpt7 := s6 _ _ hpt6
    have hlt7 := s6 _ _ hlt6
    have npob : po ≠ b := B6.nb npo
    clear K4 B4
    have K4 := K4'
    have B4 := B4'
    clear K4' B4' s6 hpt4
    generalize upd H6 po (.lst (ks.map V.int)) = Hm at K4 B4 hpo4 hpt7 hlt7 ⊢
    refine ⟨po, rfl, ⟨_, SqL.of hpo4⟩, fun D nD => ?_⟩
    have nDb : D ≠ b := B4.nb nD
    refine lc_list (K := K) (a := po) (xs := ks.map V.int) (fun i H' => Kp b Hm H' ∧ Bag H' b l ∧ ∃ (ps : List Addr) (xs : List Int), H' D = some (.lst (ps.map V.ref)) ∧ ps.length = i ∧ xs.length = i ∧ (∀ x ∈ xs, x = 0 ∨ x = 1) ∧
        ∀ (j : Nat) (p : Addr) (k x : Int), ps[j]? = some p → ks[j]? = some k → xs[j]? = some x → H' p = some (.tup [.int k, .int x]))
      ⟨Kp.new nD, B4.new nD, [], [], upd_same, rfl, rfl, fun x hx => absurd hx List.not_mem_nil, fun j p k x hp => by cases hp⟩ (fun i H' _ hv => SqL.of (hv.1 _ _ npob hpo4)) ?_ ?_
    · rintro i v H' hv ⟨kp, B', ps, xs, hD, hpl, hxl, h01, hat⟩
      rw [List.getElem?_map] at hv
      cases ek : ks[i]? with
      | none => rw [ek] at hv; cases hv
      | some k =>
        rw [ek] at hv
        have ev : v = V.int k := (Option.some.inj hv).symm
        subst ev
        have hi : i < ks.length := (List.getElem?_eq_some_iff.mp ek).1
        refine ⟨rfl, ?_⟩
        refine ⟨_, rfl, _, rfl, b, l, 2, rfl, B', by decide, by decide, fun H6 x k6 B6 x0 x1 => ⟨(by show 2 ≤ sizeLine; decide), fun p np => ?_⟩⟩
        have hD6 := k6 _ _ nDb hD
        have npD : p ≠ D := (ne_of_none hD6 np).symm
        refine ⟨_, (same_upd np) _ _ hD6, by rw [List.length_map, hpl]; exact small1000 (by omega), ?_, ?_, ps ++ [p], xs ++ [x], ?_, by rw [List.length_append, hpl]; rfl, by rw [List.length_append, hxl]; rfl, ?_, ?_⟩
        · exact ((kp.trans k6).trans (Kp.new np)).put nD
        · exact (B6.new np).put nDb (B4.nl nD)
        · rw [upd_same, List.map_append]
          rfl
        · intro y hy
          rcases List.mem_append.mp hy with hy | hy
          · exact h01 y hy
          · rw [List.mem_singleton.mp hy]
            omega
        · intro j p' k' x' hp' hk' hx'
          by_cases hj : j < i
          · rw [List.getElem?_append_left (by omega)] at hp' hx'
            have old := hat j p' k' x' hp' hk' hx'
            have nb' : p' ≠ b := fun z => by
              rw [z] at old
              obtain ⟨xs0, i0, n0, s0, hb0, _⟩ := B'
              rw [hb0] at old
              cases old
            have nD' : p' ≠ D := fun z => by rw [z, hD] at old; cases old
            rw [upd_ne nD']
            exact (same_upd np) _ _ (k6 _ _ nb' old)
          · have ej : j = i := by
              have := (List.getElem?_eq_some_iff.mp hp').1
              rw [List.length_append, hpl] at this
              have e1 : [p].length = 1 := rfl
              omega
            subst ej
            rw [List.getElem?_append_right (by omega), hpl, Nat.sub_self] at hp'
            rw [List.getElem?_append_right (by omega), hxl, Nat.sub_self] at hx'
            rw [ek] at hk'
            cases hp'
            cases hx'
            cases hk'
            rw [upd_ne npD, upd_same]
    rintro H7 ⟨k7, B7, ps, xs, hD7, hpl, hxl, h01, hat⟩
    rw [List.length_map] at hpl hxl
    have zl : (ks.zip xs).length = ks.length := by rw [List.length_zip]; omega
    have zfst : (ks.zip xs).map (·.1) = ks := List.map_fst_zip (by omega)
    refine ⟨D, ps, marksK (ks.zip xs), rfl, SqL.of hD7, ?_, fun dm ndm => ?_⟩
    · refine placewise ps (marksK (ks.zip xs)) (by unfold marksK; rw [List.length_map, zl, hpl]) fun j p kv hp hkv => ?_
      unfold marksK at hkv
      rw [List.getElem?_map] at hkv
      cases ez : (ks.zip xs)[j]? with
      | none => rw [ez] at hkv; cases hkv
      | some z =>
        rw [ez] at hkv
        cases hkv
        obtain ⟨zk, zx⟩ := List.getElem?_zip_eq_some.mp ez
        exact .inl (.inl (hat j p z.1 z.2 hp zk zx))
    have ndk : ((([] : List (Key × V)) ++ marksK (ks.zip xs)).map (·.1)).Nodup := by
      have e : (marksK (ks.zip xs)).map (·.1) = ks.map Sum.inl := by
        unfold marksK
        rw [List.map_map]
        conv => rhs; rw [← zfst, List.map_map]
        rfl
      rw [List.nil_append, e]
      exact List.pairwise_map.mpr (knd.imp fun hac he => hac (Sum.inl.inj he))
    rw [merge_fresh _ _ ndk, List.nil_append]
    have hmark : ∀ m ∈ ks.zip xs, m.2 = 0 ∨ m.2 = 1 := fun m hm => h01 _ (List.of_mem_zip hm).2
    have hnode : ∀ m ∈ ks.zip xs, 0 ≤ m.1 ∧ m.1 < 12 := fun m hm => kin _ (List.of_mem_zip hm).1
    have K8 : Kp b H (upd H7 dm (.dK (marksK (ks.zip xs)))) := (K4.trans k7).trans (Kp.new ndm)
    have B8 : Bag (upd H7 dm (.dK (marksK (ks.zip xs)))) b l := B7.new ndm
    have ndmb : dm ≠ b := B7.nb ndm
    have hdm8 : (upd H7 dm (.dK (marksK (ks.zip xs)))) dm = some (.dK (marksK (ks.zip xs))) := upd_same
    have hpo8 : (upd H7 dm (.dK (marksK (ks.zip xs)))) po = some (.lst (ks.map V.int)) := (same_upd ndm) _ _ (k7 _ _ npob hpo4)
    generalize hms : ks.zip xs = ms at zfst hmark hnode K8 B8 hdm8 hpo8 ⊢
    generalize hH8 : upd H7 dm (.dK (marksK ms)) = H8 at K8 B8 hdm8 hpo8 ⊢
    have hpt8 : H8 pt = some (.lst (pts.map V.int)) := by
      rw [← hH8]
      exact (same_upd ndm) _ _ (k7 _ _ nptb hpt7)
    have hlt8 : H8 lt = some (.lst (ds.map sig)) := by
      rw [← hH8]
      exact (same_upd ndm) _ _ (k7 _ _ nltb hlt7)
    -- ends = {}
    intro de nde
    have K9 : Kp b H (upd H8 de (.dK [])) := K8.trans (Kp.new nde)
    have B9 : Bag (upd H8 de (.dK [])) b l := B8.new nde
    have ndeb : de ≠ b := B8.nb nde
    have ndel : de ≠ l := B8.nl nde
    have s9 : Same H8 (upd H8 de (.dK [])) := same_upd nde
    have hde9 : (upd H8 de (.dK [])) de = some (.dK []) := upd_same
    have hdm9 := s9 _ _ hdm8
    have hpt9 := s9 _ _ hpt8
    have hlt9 := s9 _ _ hlt8
    have nde0 : H de = none := K8.free B8.hb nde
    have prs9 : PairsAt (upd H8 de (.dK [])) pp prs := prAt.keep B.hbl npp K9
    have ptde : pt ≠ de := ne_of_none hpt8 nde
    have ltde : lt ≠ de := ne_of_none hlt8 nde
    have dmde : dm ≠ de := ne_of_none hdm8 nde
    clear hpo8 s9
    refine gname ?_
    dsimp only
    generalize upd H8 de (.dK []) = H9 at K9 B9 hde9 hdm9 hpt9 hlt9 prs9 ⊢
    obtain ⟨ps, hpp, psl, pst⟩ := prs9
    have ppde : pp ≠ de := ne_of hpp hde9 (by intro z; cases z)
    have psde : ∀ (j : Nat) (q : Addr) (z : Int × Int), ps[j]? = some q → prs[j]? = some z → q ≠ de := fun j q z hq hz => ne_of (pst j q z hq hz) hde9 (by intro e; cases e)
    refine ⟨_, rfl, pp, _, rfl, .inl (SqL.of hpp), _, rfl, by omega, by rw [List.length_map]; omega, ?_⟩
    rw [show ((((ps.map V.ref).length : Nat) : Int)).toNat = prs.length from by rw [List.length_map, psl]; omega]
    refine for_range (lo := 0) (n := prs.length) (fun i σ H' => ∃ (y7 y8 y9 y10 y11 : Option V) (es : List Edg), σ = [some (.ref b), some (.int size), some (.ref pp), some (.ref pt), some (.ref lt), some (.ref dm), some (.ref de), y7, y8, y9, y10, y11, none]
        ∧ Kp de H9 H' ∧ H' de = some (.dK (endsK es)) ∧ es.map (·.letter) = ds.take i ∧ ∀ e ∈ es, H' e.pair = some (.tup [.int e.lo, .int e.hi]) ∧ e.lo < e.hi ∧ e.lo ∈ pts ∧ e.hi ∈ pts)
      ⟨none, none, none, none, none, [], rfl, Kp.refl _ _, hde9, rfl, fun e he => absurd he List.not_mem_nil⟩ ?_ ?_
    · rintro i σ H10 hi ⟨y7, y8, y9, y10, y11, es, rfl, kp, hde, hes, hall⟩
      have ei : (0 : Int) + (i : Int) = ((i : Nat) : Int) := by omega
      rw [ei]
      have hip : i < ps.length := by omega
      have hid : i < ds.length := by omega
      have gz : prs[i]? = some prs[i] := List.getElem?_eq_getElem hi
      have gq : ps[i]? = some ps[i] := List.getElem?_eq_getElem hip
      obtain ⟨g1, g2, g3, g4, g5⟩ := good _ (List.getElem_mem hi)
      have tup := kp _ _ (psde i _ _ gq gz) (pst i _ _ gq gz)
      obtain ⟨u, eu⟩ : ∃ u : Nat, prs[i].1 = u := ⟨prs[i].1.toNat, by omega⟩
      obtain ⟨t, et⟩ : ∃ t : Nat, prs[i].2 = t := ⟨prs[i].2.toNat, by omega⟩
      have hu : u < pts.length := by omega
      have ht : t < pts.length := by omega
      have hut : u ≠ t := by omega
      have gu : (pts.map V.int)[u]? = some (.int pts[u]) := by rw [List.getElem?_map, List.getElem?_eq_getElem hu]; rfl
      have gt : (pts.map V.int)[t]? = some (.int pts[t]) := by rw [List.getElem?_map, List.getElem?_eq_getElem ht]; rfl
      have gl : (ds.map sig)[i]? = some (sig ds[i]) := by rw [List.getElem?_map, List.getElem?_eq_getElem hid]; rfl
      have gp : (ps.map V.ref)[i]? = some (.ref ps[i]) := by rw [List.getElem?_map, gq]; rfl
      have apart : pts[u] ≠ pts[t] := fun e => by
        rcases Nat.lt_or_gt_of_ne hut with c | c
        · exact List.pairwise_iff_getElem.mp pnd u t hu ht c e
        · exact List.pairwise_iff_getElem.mp pnd t u ht hu c e.symm
      have hpp10 := kp _ _ ppde hpp
      have hpt10 := kp _ _ ptde hpt9
      have hlt10 := kp _ _ ltde hlt9
      refine ⟨_, rfl, _, rfl, pp, _, _, .ref ps[i], rfl, rfl, SqL.of hpp10, atI_nat gp, ?_⟩
      refine ⟨ps[i], _, rfl, .inl (.inl tup), rfl, _, _, rfl, _, _, rfl, rfl, ?_⟩
      rw [eu, et]
      refine ⟨_, rfl, _, rfl, pt, _, _, .int pts[u], rfl, rfl, SqL.of hpt10, atI_nat gu, _, rfl, _, rfl, pt, _, _, .int pts[t], rfl, rfl, SqL.of hpt10, atI_nat gt, _, _, rfl, ?_⟩
      refine ⟨_, rfl, _, rfl, _, _, rfl, _, rfl, _, rfl, _, _, rfl, (by show 2 ≤ sizeLine; decide), fun pr npr => ?_⟩
      have elo : (if pts[t] < pts[u] then pts[t] else pts[u]) = min pts[u] pts[t] := by
        by_cases c : pts[t] < pts[u]
        · rw [if_pos c]; omega
        · rw [if_neg c]; omega
      have ehi : (if pts[t] > pts[u] then pts[t] else pts[u]) = max pts[u] pts[t] := by
        by_cases c : pts[t] > pts[u]
        · rw [if_pos c]; omega
        · rw [if_neg c]; omega
      rw [elo, ehi]
      have sp := same_upd (o := .tup [.int (min pts[u] pts[t]), .int (max pts[u] pts[t])]) npr
      have fresh : (Sum.inr (txt [ds[i]]) : Key) ∉ (endsK es).map (·.1) := fun z => by
        unfold endsK at z
        rw [List.map_map] at z
        obtain ⟨e, he, ez⟩ := List.mem_map.mp z
        have ez2 : e.letter = ds[i] := List.head_eq_of_cons_eq (txt_inj (Sum.inr.inj ez))
        have hm : ds[i] ∈ ds.take i := by
          rw [← hes, ← ez2]
          exact List.mem_map.mpr ⟨e, he, rfl⟩
        obtain ⟨j, hj, ej⟩ := List.mem_iff_getElem.mp hm
        rw [List.length_take] at hj
        rw [List.getElem_take] at ej
        exact List.pairwise_iff_getElem.mp dnd j i (by omega) hid (by omega) ej
      have eel : es.length = i := by
        have e := congrArg List.length hes
        rw [List.length_map, List.length_take] at e
        omega
      refine ⟨_, rfl, _, rfl, _, rfl, lt, _, _, sig ds[i], rfl, rfl, SqL.of (sp _ _ hlt10), atI_nat gl, de, _, rfl, DPut.k (k := Sum.inr (txt [ds[i]])) (sp _ _ hde) (by unfold endsK; rw [List.length_map, eel]; exact small1000 (by omega)), ?_⟩
      rw [putK_new _ (valV_fresh fresh)]
      have prde : pr ≠ de := fun z => by rw [z, hde] at npr; cases npr
      refine ⟨_, _, _, _, _, es ++ [⟨ds[i], pr, min pts[u] pts[t], max pts[u] pts[t]⟩], rfl, ?_, ?_, ?_, ?_⟩
      · exact fun q o nq hq => by
          rw [upd_ne nq]
          exact sp _ _ (kp q o nq hq)
      · rw [upd_same]
        unfold endsK
        rw [List.map_append]
        rfl
      · rw [List.map_append, hes, List.take_succ_eq_append_getElem hid]
        rfl
      · intro e he
        rcases List.mem_append.mp he with he | he
        · obtain ⟨a1, a2, a3, a4⟩ := hall e he
          have nd' : e.pair ≠ de := fun z => by rw [z, hde] at a1; cases a1
          refine ⟨?_, a2, a3, a4⟩
          rw [upd_ne nd']
          exact sp _ _ a1
        · rw [List.mem_singleton.mp he]
          have m1 := List.getElem_mem hu
          have m2 := List.getElem_mem ht
          refine ⟨?_, by show min pts[u] pts[t] < max pts[u] pts[t]; omega, ?_, ?_⟩
          · show (upd (upd H10 pr _) de _) pr = _
            rw [upd_ne prde, upd_same]
          · show min pts[u] pts[t] ∈ pts
            rcases Int.le_total pts[u] pts[t] with c | c
            · rw [Int.min_eq_left c]; exact m1
            · rw [Int.min_eq_right c]; exact m2
          · show max pts[u] pts[t] ∈ pts
            rcases Int.le_total pts[u] pts[t] with c | c
            · rw [Int.max_eq_right c]; exact m2
            · rw [Int.max_eq_left c]; exact m1
    · rintro σ H10 ⟨y7, y8, y9, y10, y11, es, rfl, kp, hde, hes, hall⟩
      refine ⟨_, rfl, _, rfl, (by show 2 ≤ sizeLine; decide), fun tt ntt => ?_⟩
      have st := same_upd (o := .tup [.ref dm, .ref de]) ntt
      have B10 : Bag H10 b l := by
        obtain ⟨xs0, i0, n0, s0, hb0, hl0, rest⟩ := B9
        exact ⟨xs0, i0, n0, s0, kp _ _ ndeb.symm hb0, kp _ _ ndel.symm hl0, rest⟩
      have K10 : Kp b H H10 := fun q o nq hq => by
        have n2 : q ≠ de := fun z => by rw [z, nde0] at hq; cases hq
        exact kp _ _ n2 (K9 q o nq hq)
      have key : ∀ n, n ∈ pts → n ∈ ms.map (·.1) := fun n hn => by
        rw [zfst]
        exact pk.mem_iff.mpr hn
      have msl : ms.length < 64 := by
        have q := congrArg List.length zfst
        rw [List.length_map] at q
        omega
      have esl : es.length < 64 := by
        have q := congrArg List.length hes
        rw [List.length_map, List.length_take] at q
        omega
      refine hand _ tt ms es (K10.trans (Kp.new ntt)) (B10.new ntt) ⟨dm, de, upd_same, st _ _ (kp _ _ dmde hdm9), st _ _ hde, ⟨by rw [zfst]; exact knd, msl, hnode, hmark⟩, ⟨?_, esl, ?_, fun e he => ⟨st _ _ (hall e he).1, ?_, key _ (hall e he).2.2.1, key _ (hall e he).2.2.2⟩⟩, fun e he => (hall e he).2.1⟩
      · rw [hes]
        exact dnd.sublist (List.take_sublist _ _)
      · intro e he
        refine pd.mem_iff.mp (List.mem_of_mem_take (i := prs.length) ?_)
        rw [← hes]
        exact List.mem_map.mpr ⟨e, he, rfl⟩
      · have := (hall e he).2.1
        omega
end


end T06

namespace T06
open PySem PySem.Spec PyProof.Rows L2 Tm
abbrev sHard : Stmt := topS 34
theorem scHard : FnScope ["_law_bag_here", "_law_pairs_here", "_law_size", "_law_turn", "_law_first", "_law_last"] ["_law_bag_here"] (defScope sHard) := ⟨rfl, rfl, rfl, by decide +kernel, rfl, by decide +kernel, by decide +kernel⟩
theorem good_five : GoodPairs 5 fiveP := by unfold GoodPairs fiveP; decide
theorem good_six : GoodPairs 6 sixP := by unfold GoodPairs sixP; decide
theorem good_erase {size : Int} {pz : List (Addr × Int × Int)} {k : Nat} (g : GoodPairs size (pz.map (·.2))) : GoodPairs size ((pz.eraseIdx k).map (·.2)) := fun z hz => by
  obtain ⟨a, ha, rfl⟩ := List.mem_map.mp hz
  exact g _ (List.mem_map.mpr ⟨a, List.mem_of_mem_eraseIdx ha, rfl⟩)
section
variable {P : Program} {w : World} {K : PySem.W.Frag} {mg : Str → Option Value} {base : Heap}
set_option maxHeartbeats 2000000 in
theorem ok_hard {f fP fO fV fX fR : Addr} {fd fdP fdO fdV fdX fdR : FuncData} (F : Fun K "_law_hard" "_law_hard" sHard f fd)
    (GP : FnOk P w K mg base CX0 1 fP fdP ["_law_bag_here", "_law_many"] spPull) (FP : Fun K "_law_pull" "_law_pull" sPull fP fdP) (bP : Binds K fdP ["_law_bag_here", "_law_many"] []) (gP : mg "_law_pull" = some (.ref fP))
    (GO : FnOk P w K mg base CX0 2 fO fdO ["_law_bag_here", "_law_things"] (spOf K)) (FO : Fun K "_law_of" "_law_of" sOf fO fdO) (bO : Binds K fdO ["_law_bag_here", "_law_things"] []) (gO : mg "_law_of" = some (.ref fO))
    (GV : FnOk P w K mg base CX0 1 fV fdV [] (spPairs fiveP)) (FV : Fun K "_law_five" "_law_five" sFive fV fdV) (bV : Binds K fdV [] []) (gV : mg "_law_five" = some (.ref fV))
    (GX : FnOk P w K mg base CX0 1 fX fdX [] (spPairs sixP)) (FX : Fun K "_law_six" "_law_six" sSix fX fdX) (bX : Binds K fdX [] []) (gX : mg "_law_six" = some (.ref fX))
    (GR : FnOk P w K mg base CX0 3 fR fdR ["_law_bag_here", "_law_size", "_law_pairs_here"] spRen) (FR : Fun K "_law_renamed" "_law_renamed" sRen fR fdR) (bR : Binds K fdR ["_law_bag_here", "_law_size", "_law_pairs_here"] []) (gR : mg "_law_renamed" = some (.ref fR)) (T : RawT mg) :
    FnOk P w K mg base CX0 4 f fd ["_law_bag_here"] spHard := by
  refine F.ok scHard (fun vs H Q E h => ?_) (fun cdv A outer s H vs Q E hr h => ?_)
  · obtain ⟨b, l, rfl, _⟩ := h
    rfl
  · obtain ⟨b, l, rfl, B, hand⟩ := h
    have hr1 : Room 1 _ := hr.mono (by decide)
    have hr2 : Room 2 _ := hr.mono (by decide)
    refine ⟨_, pss_cons (ps_set (i := 1) scHard.nd rfl (.inl rfl) (pe_call GO hr2 (by rfl) gO FO.kp bO .nil pass0 (pa_cons (pv 0) (pa_cons (pe_lst (pa_cons (pe_call0 GV hr1 (by rfl) gV FV.kp bV .nil pass0) (pa_cons (pe_call0 GX hr1 (by rfl) gX FX.kp bX .nil pass0) pa_nil))) pa_nil))))
      (pss_cons (ps_set (i := 2) scHard.nd rfl (.inl rfl) (pe_ifExp (pt_cmpR op_eq (pe_callB call_len_seq (by rfl) T.len PySem.boot_len (pa_cons (pv 1) pa_nil)) pe_int (nomark _)) pe_int pe_int))
      (pss_cons (ps_if (pt_cmpR op_eq (pe_call GP hr1 (by rfl) gP FP.kp bP .nil pass0 (pa_cons (pv 0) (pa_cons pe_int pa_nil))) pe_int (nomark _)) (pss_one (ps_expr (pe_bm PySem.F.plainAttrs_list PySem.F.slot_list_pop PySem.F.type_list_pop mt_popAt (pv 1) (pa_cons (pe_call GP hr1 (by rfl) gP FP.kp bP .nil pass0 (pa_cons (pv 0) (pa_cons (pe_callB call_len_seq (by rfl) T.len PySem.boot_len (pa_cons (pv 1) pa_nil)) pa_nil))) pa_nil)))) pss_nil)
      (pss_cons (ps_for PassesOwn.never rfl (pi_range1 (by rfl) T.range (pa_cons (pe_call GP hr1 (by rfl) gP FP.kp bP .nil pass0 (pa_cons (pv 0) (pa_cons pe_int pa_nil))) pa_nil)) (pg_name (i := 3) scHard.nd rfl (.inl rfl))
        (pss_cons (ps_asg (pe_bm PySem.F.plainAttrs_list PySem.F.slot_list_pop PySem.F.type_list_pop mt_popAt (pv 1) (pa_cons (pe_call GP hr1 (by rfl) gP FP.kp bP .nil pass0 (pa_cons (pv 0) (pa_cons (pe_callB call_len_seq (by rfl) T.len PySem.boot_len (pa_cons (pv 1) pa_nil)) pa_nil))) pa_nil)) (pg_tup rfl (pgs_cons (pg_name (i := 4) scHard.nd rfl (.inl rfl)) (pgs_cons (pg_name (i := 5) scHard.nd rfl (.inl rfl)) pgs_nil))))
        (pss_cons (ps_set (i := 1) scHard.nd rfl (.inl rfl) (pe_op op_cat (pv 1) (pe_lst (pa_cons (pe_tup (pa_cons (pv 4) (pa_cons (pv 2) pa_nil))) (pa_cons (pe_tup (pa_cons (pv 2) (pa_cons (pv 5) pa_nil))) pa_nil)))))
        (pss_one (ps_set (i := 2) scHard.nd rfl (.inl rfl) (pe_op op_add (pv 2) pe_int))))))
      (pss_cons (ps_for PassesOwn.never rfl (pi_range1 (by rfl) T.range (pa_cons (pe_call GP hr1 (by rfl) gP FP.kp bP .nil pass0 (pa_cons (pv 0) (pa_cons pe_int pa_nil))) pa_nil)) (pg_name (i := 3) scHard.nd rfl (.inl rfl))
        (pss_cons (ps_set (i := 4) scHard.nd rfl (.inl rfl) (pe_call GP hr1 (by rfl) gP FP.kp bP .nil pass0 (pa_cons (pv 0) (pa_cons (pv 2) pa_nil))))
        (pss_one (ps_expr (pe_bm PySem.F.plainAttrs_list PySem.F.slot_list_append PySem.F.type_list_append mt_append (pv 1) (pa_cons (pe_tup (pa_cons (pv 4) (pa_cons (pe_op op_mod (pe_op op_add (pe_op op_add (pv 4) pe_int) (pe_call GP hr1 (by rfl) gP FP.kp bP .nil pass0 (pa_cons (pv 0) (pa_cons (pe_op op_sub (pv 2) pe_int) pa_nil)))) (pv 2)) pa_nil))) pa_nil))))))
      (pss_one (ps_ret (pe_call GR hr (by rfl) gR FR.kp bR .nil pass0 (pa_cons (pv 0) (pa_cons (pe_op op_add (pv 2) (pe_call GP hr1 (by rfl) gP FP.kp bP .nil pass0 (pa_cons (pv 0) (pa_cons pe_int pa_nil)))) (pa_cons (pv 1) pa_nil)))))))))), ?_⟩
    -- one of the two lists
    refine ⟨_, rfl, rfl, fun H1 p5 s1 n5 at5 => ?_⟩
    refine ⟨rfl, fun H2 p6 s2 n6 at6 => ⟨(by show 2 ≤ sizeLine; decide), fun two ntwo => ?_⟩⟩
    have S2 := s1.trans s2
    have s3 := same_upd (o := .lst [.ref p5, .ref p6]) ntwo
    have B3 : Bag (upd H2 two (.lst [.ref p5, .ref p6])) b l := (B.same S2).new ntwo
    have n6' : H p6 = none := s1.free n6
    refine ⟨b, l, _, [.ref p5, .ref p6], rfl, B3, .inl ⟨two, rfl, (B.same S2).nb ntwo, SqL.of upd_same⟩, (by show 0 < 2; decide), (by show 2 < 1073741824; decide), fun H4 c k4 B4 hc => ?_⟩
    have K4 : Kp b H H4 := (Kp.of_same (S2.trans s3)).trans k4
    have start : ∃ (pa : Addr) (prs : List (Int × Int)), c = .ref pa ∧ PairsAt H4 pa prs ∧ H pa = none ∧ ((prs = fiveP) ∨ (prs = sixP)) := by
      rcases List.mem_cons.mp hc with rfl | hc
      · exact ⟨p5, fiveP, rfl, ((at5.same s2).same s3).keep B3.hbl (B.nb n5) k4, n5, .inl rfl⟩
      · rw [List.mem_singleton.mp hc]
        exact ⟨p6, sixP, rfl, (at6.same s3).keep B3.hbl (B.nb n6') k4, n6', .inr rfl⟩
    obtain ⟨pa, prs, rfl, atp, npa, which⟩ := start
    obtain ⟨pz, hz, ez⟩ := atp.z
    have zl : pz.length = prs.length := by rw [← ez, List.length_map]
    -- size
    dsimp only
    refine cut (t1 := tAsg _ (gName 2)) (fun σ H' => ∃ (pa : Addr) (size : Int) (pz : List (Addr × Int × Int)) (y3 y4 y5 : Option V), σ = [some (.ref b), some (.ref pa), some (.int size), y3, y4, y5] ∧ Kp b H H' ∧ Bag H' b l ∧ pa ≠ b ∧ pa ≠ l ∧ H pa = none ∧ PairsZ H' pa pz ∧ GoodPairs size (pz.map (·.2)) ∧ 9 ≤ pz.length ∧ pz.length ≤ 10 ∧ 5 ≤ size ∧ size ≤ 6) (fun σ1 H5 hp => ?tail1) (fun N1 hN1 => ?head1)
    case head1 =>
      refine ⟨_, rfl, pa, _, rfl, .inl (SqL.of hz.1), rfl, _, rfl, ?_⟩
      rcases which with e | e
      · subst e
        refine ifT ?_ ?_
        · rw [List.length_map, zl]
          rfl
        · exact hN1 _ _ ⟨pa, 5, pz, none, none, none, rfl, K4, B4, B.nb npa, B.nl npa, npa, hz, by rw [ez]; exact good_five, by rw [zl]; decide, by rw [zl]; decide, by decide, by decide⟩
      · subst e
        refine ifF ?_ ?_
        · rw [List.length_map, zl]
          rfl
        · exact hN1 _ _ ⟨pa, 6, pz, none, none, none, rfl, K4, B4, B.nb npa, B.nl npa, npa, hz, by rw [ez]; exact good_six, by rw [zl]; decide, by rw [zl]; decide, by decide, by decide⟩
    case tail1 =>
    clear K4 B4 hz atp npa ez zl which k4
    obtain ⟨pa, size, pz, y3, y4, y5, rfl, K5, B5, npb, npl, npa, hz, good, l0, l1, z0, z1⟩ := hp
    -- one pair less, or not
    refine cut (t1 := tIfS _ _ _) (fun σ H' => ∃ (pa : Addr) (size : Int) (pz : List (Addr × Int × Int)) (y3 y4 y5 : Option V), σ = [some (.ref b), some (.ref pa), some (.int size), y3, y4, y5] ∧ Kp b H H' ∧ Bag H' b l ∧ pa ≠ b ∧ pa ≠ l ∧ H pa = none ∧ PairsZ H' pa pz ∧ GoodPairs size (pz.map (·.2)) ∧ 8 ≤ pz.length ∧ pz.length ≤ 10 ∧ 5 ≤ size ∧ size ≤ 6) (fun σ1 H6 hp => ?tail2) (fun N2 hN2 => ?head2)
    case head2 =>
      refine ⟨_, rfl, b, l, 3, rfl, B5, by decide, by decide, fun H6 d k6 B6 d0 d1 => ⟨rfl, _, rfl, ?_⟩⟩
      have hz6 := hz.keep B5.hbl npb k6
      refine ite2 (fun _ => ?_) (fun _ => ?_)
      · refine ⟨_, rfl, .inl ⟨rfl, _, SqL.of hz6.1⟩, _, rfl, _, rfl, pa, _, rfl, .inl (SqL.of hz6.1), b, l, _, rfl, B6, by rw [List.length_map]; omega, by rw [List.length_map]; omega, fun H7 e k7 B7 e0 e1 => ?_⟩
        have hz7 := hz6.keep B6.hbl npb k7
        rw [List.length_map] at e1
        obtain ⟨j, rfl⟩ : ∃ j : Nat, e = j := ⟨e.toNat, by omega⟩
        have hj : j < pz.length := by omega
        refine ⟨pa, _, _, j, .ref pz[j].1, rfl, rfl, hz7.1, by omega, by omega, ?_, by rw [List.getElem?_map, List.getElem?_eq_getElem hj]; rfl, ?_⟩
        · exact (ixN_seq (by unfold ixN; rw [if_pos (by omega), if_pos (by rw [List.length_map]; omega)]; rfl)).1
        · rw [erase_map]
          exact hN2 _ _ ⟨pa, size, pz.eraseIdx j, _, _, _, rfl, ((K5.trans k6).trans k7).put npa, B7.put npb npl, npb, npl, npa, PairsZ.put hz7.1 (fun a ha => hz7.2 a (List.mem_of_mem_eraseIdx ha)), good_erase good, by rw [List.length_eraseIdx_of_lt hj]; omega, by rw [List.length_eraseIdx_of_lt hj]; omega, z0, z1⟩
      · exact hN2 _ _ ⟨pa, size, pz, _, _, _, rfl, K5.trans k6, B6, npb, npl, npa, hz6, good, by omega, l1, z0, z1⟩
    case tail2 =>
    clear K5 B5 hz good l0 l1 z0 z1 npb npl npa
    obtain ⟨pa, size, pz, y3, y4, y5, rfl, K6, B6, npb, npl, npa, hz, good, l0, l1, z0, z1⟩ := hp
    -- edges divided
    refine ⟨_, rfl, b, l, 3, rfl, B6, by decide, by decide, fun H7 d k7 B7 d0 d1 => ⟨_, rfl, by omega, by omega, ?_⟩⟩
    have hz7 := hz.keep B6.hbl npb k7
    refine for_range (lo := 0) (n := d.toNat) (fun i σ H' => ∃ (pa : Addr) (size : Int) (pz : List (Addr × Int × Int)) (y3 y4 y5 : Option V), σ = [some (.ref b), some (.ref pa), some (.int size), y3, y4, y5] ∧ Kp b H H' ∧ Bag H' b l ∧ pa ≠ b ∧ pa ≠ l ∧ H pa = none ∧ PairsZ H' pa pz ∧ GoodPairs size (pz.map (·.2)) ∧ 8 ≤ pz.length ∧ pz.length ≤ 10 + i ∧ 5 ≤ size ∧ size ≤ 6 + (i : Int)) ⟨pa, size, pz, y3, y4, y5, rfl, K6.trans k7, B7, npb, npl, npa, hz7, good, l0, by omega, z0, by omega⟩ ?_ ?_
    · rintro i σ H8 hi ⟨pa, size, pz, y3, y4, y5, rfl, K8, B8, npb, npl, npa, hz, good, l0, l1, z0, z1⟩
      refine ⟨_, rfl, .inl ⟨rfl, _, SqL.of hz.1⟩, _, rfl, _, rfl, pa, _, rfl, .inl (SqL.of hz.1), b, l, _, rfl, B8, by rw [List.length_map]; omega, by rw [List.length_map]; omega, fun H9 e k9 B9 e0 e1 => ?_⟩
      have hz9 := hz.keep B8.hbl npb k9
      rw [List.length_map] at e1
      obtain ⟨j, rfl⟩ : ∃ j : Nat, e = j := ⟨e.toNat, by omega⟩
      have hj : j < pz.length := by omega
      have mem := List.getElem_mem hj
      have tup := hz9.2 _ mem
      obtain ⟨g1, g2, g3, g4, g5⟩ := good _ (List.mem_map.mpr ⟨_, mem, rfl⟩)
      refine ⟨pa, _, _, j, .ref pz[j].1, rfl, rfl, hz9.1, by omega, by omega, ?_, by rw [List.getElem?_map, List.getElem?_eq_getElem hj]; rfl, ?_⟩
      · exact (ixN_seq (by unfold ixN; rw [if_pos (by omega), if_pos (by rw [List.length_map]; omega)]; rfl)).1
      rw [erase_map]
      have hz10 := PairsZ.put (pz := pz.eraseIdx j) hz9.1 (fun a ha => hz9.2 a (List.mem_of_mem_eraseIdx ha))
      have npj : pz[j].1 ≠ pa := ne_of tup hz9.1 (by intro z; cases z)
      have tup10 : (upd H9 pa (.lst ((pz.eraseIdx j).map fun a => V.ref a.1))) pz[j].1 = some (.tup [.int pz[j].2.1, .int pz[j].2.2]) := by rw [upd_ne npj]; exact tup
      have K10 := ((K8.trans k9).put (o := .lst ((pz.eraseIdx j).map fun a => V.ref a.1)) npa)
      have B10 := B9.put (o := .lst ((pz.eraseIdx j).map fun a => V.ref a.1)) npb npl
      generalize upd H9 pa (.lst ((pz.eraseIdx j).map fun a => V.ref a.1)) = H10 at hz10 tup10 K10 B10 ⊢
      refine ⟨pz[j].1, _, rfl, .inl (.inl tup10), rfl, _, _, rfl, _, _, rfl, rfl, ?_⟩
      refine ⟨_, rfl, _, rfl, _, rfl, (by show 2 ≤ sizeLine; decide), fun t1 n1 => ⟨_, rfl, _, rfl, (by show 2 ≤ sizeLine; decide), fun t2 n2 => ⟨(by show 2 ≤ sizeLine; decide), fun nl nnl => ?_⟩⟩⟩
      have u1 := same_upd (o := .tup [.int pz[j].2.1, .int size]) n1
      have u2 := u1.trans (same_upd (o := .tup [.int size, .int pz[j].2.2]) n2)
      have u3 := u2.trans (same_upd (o := .lst [.ref t1, .ref t2]) nnl)
      refine ⟨pa, nl, _, _, rfl, rfl, u3 _ _ hz10.1, upd_same, ?_, fun np nnp => ?_⟩
      · rw [List.length_map, List.length_eraseIdx_of_lt hj]
        exact Nat.le_of_lt (small1000 (by show pz.length - 1 + 2 ≤ 1000; omega))
      refine ⟨_, rfl, _, _, rfl, rfl, ?_⟩
      have u4 := u3.trans (same_upd (o := .lst ((pz.eraseIdx j).map (fun a => V.ref a.1) ++ [.ref t1, .ref t2])) nnp)
      have fnp : H np = none := K10.free B10.hb (u3.free nnp)
      have el : ((pz.eraseIdx j) ++ [(t1, pz[j].2.1, size), (t2, size, pz[j].2.2)]).map (fun a => V.ref a.1) = (pz.eraseIdx j).map (fun a => V.ref a.1) ++ [.ref t1, .ref t2] := by rw [List.map_append]; rfl
      have a1 := ((same_upd (o := .tup [.int size, .int pz[j].2.2]) n2).trans ((same_upd (o := .lst [.ref t1, .ref t2]) nnl).trans (same_upd (o := .lst ((pz.eraseIdx j).map (fun a => V.ref a.1) ++ [.ref t1, .ref t2])) nnp))) _ _ (upd_same (H := H10) (a := t1) (o := .tup [.int pz[j].2.1, .int size]))
      have a2 := ((same_upd (o := .lst [.ref t1, .ref t2]) nnl).trans (same_upd (o := .lst ((pz.eraseIdx j).map (fun a => V.ref a.1) ++ [.ref t1, .ref t2])) nnp)) _ _ (upd_same (a := t2) (o := .tup [.int size, .int pz[j].2.2]))
      refine ⟨np, size + 1, (pz.eraseIdx j) ++ [(t1, pz[j].2.1, size), (t2, size, pz[j].2.2)], _, _, _, rfl, K10.trans (Kp.of_same u4), B10.same u4, (B10.same u3).nb nnp, (B10.same u3).nl nnp, fnp, ⟨by rw [el]; exact upd_same, ?_⟩, ?_, ?_, ?_, by omega, by omega⟩
      · intro a ha
        rcases List.mem_append.mp ha with ha | ha
        · exact u4 _ _ (hz10.2 a ha)
        · rcases List.mem_cons.mp ha with rfl | ha
          · exact a1
          · rw [List.mem_singleton.mp ha]
            exact a2
      · intro z hzz
        rw [List.map_append] at hzz
        rcases List.mem_append.mp hzz with q | q
        · obtain ⟨h1, h2, h3, h4, h5⟩ := good_erase good z q
          exact ⟨h1, by omega, h3, by omega, h5⟩
        · rcases List.mem_cons.mp q with rfl | q
          · exact ⟨g1, by show pz[j].2.1 < size + 1; omega, by show 0 ≤ size; omega, by show size < size + 1; omega, by show pz[j].2.1 ≠ size; omega⟩
          · rw [List.mem_singleton.mp q]
            exact ⟨by show 0 ≤ size; omega, by show size < size + 1; omega, g3, by show pz[j].2.2 < size + 1; omega, by show size ≠ pz[j].2.2; omega⟩
      · rw [List.length_append, List.length_eraseIdx_of_lt hj]
        show 8 ≤ pz.length - 1 + 2
        omega
      · rw [List.length_append, List.length_eraseIdx_of_lt hj]
        show pz.length - 1 + 2 ≤ 10 + (i + 1)
        omega
    rintro σ H8 ⟨pa, size, pz, y3, y4, y5, rfl, K8, B8, npb, npl, npa, hz, good, l0, l1, z0, z1⟩
    -- edges added
    refine ⟨_, rfl, b, l, 3, rfl, B8, by decide, by decide, fun H9 e k9 B9 e0 e1 => ⟨_, rfl, by omega, by omega, ?_⟩⟩
    have hz9 := hz.keep B8.hbl npb k9
    refine for_range (lo := 0) (n := e.toNat) (fun i σ H' => ∃ (pa : Addr) (size : Int) (pz : List (Addr × Int × Int)) (y3 y4 y5 : Option V), σ = [some (.ref b), some (.ref pa), some (.int size), y3, y4, y5] ∧ Kp b H H' ∧ Bag H' b l ∧ pa ≠ b ∧ pa ≠ l ∧ H pa = none ∧ PairsZ H' pa pz ∧ GoodPairs size (pz.map (·.2)) ∧ 8 ≤ pz.length ∧ pz.length ≤ 12 + i ∧ 5 ≤ size ∧ size ≤ 8) ⟨pa, size, pz, y3, y4, y5, rfl, K8.trans k9, B9, npb, npl, npa, hz9, good, l0, by omega, z0, by omega⟩ ?_ ?_
    · rintro i σ H10 hi ⟨pa, size, pz, y3, y4, y5, rfl, K10, B10, npb, npl, npa, hz, good, l0, l1, z0, z1⟩
      refine ⟨_, rfl, _, rfl, b, l, size, rfl, B10, by omega, by omega, fun H11 u k11 B11 u0 u1 => ?_⟩
      have hz11 := hz.keep B10.hbl npb k11
      refine ⟨_, rfl, .inl ⟨rfl, _, SqL.of hz11.1⟩, _, rfl, _, rfl, _, _, rfl, rfl, _, rfl, _, rfl, _, _, rfl, rfl, b, l, _, rfl, B11, by omega, by omega, fun H12 g k12 B12 g0 g1 => ⟨_, _, rfl, rfl, _, rfl, _, _, rfl, rfl, (by show (0 : Int) < size; omega), (by show 2 ≤ sizeLine; decide), fun tp ntp => ?_⟩⟩
      have hz12 := hz11.keep B11.hbl npb k12
      have g2 : g < size - 1 := g1
      have h0 : 0 ≤ (u + 1 + g) % size := Int.emod_nonneg _ (by omega)
      have h1 : (u + 1 + g) % size < size := Int.emod_lt_of_pos _ (by omega)
      have hne : (u + 1 + g) % size ≠ u := by
        by_cases c1 : u + 1 + g < size
        · rw [Int.emod_eq_of_lt (by omega) c1]
          omega
        · have c2 : (u + 1 + g) % size = u + 1 + g - size := by
            rw [← Int.sub_emod_right, Int.emod_eq_of_lt (by omega) (by omega)]
          omega
      have sp := same_upd (o := .tup [.int u, .int ((u + 1 + g) % size)]) ntp
      have hz13 := hz12.same sp
      have t13 : (upd H12 tp (.tup [.int u, .int ((u + 1 + g) % size)])) tp = some (.tup [.int u, .int ((u + 1 + g) % size)]) := upd_same
      refine ⟨pa, _, _, rfl, rfl, hz13.1, by rw [List.length_map]; exact small1000 (by omega), ?_⟩
      have el : (pz.map fun a => V.ref a.1) ++ [V.ref tp] = (pz ++ [(tp, u, (u + 1 + g) % size)]).map fun a => V.ref a.1 := by rw [List.map_append]; rfl
      rw [el]
      refine ⟨pa, size, pz ++ [(tp, u, (u + 1 + g) % size)], _, _, _, rfl, (((K10.trans k11).trans k12).trans (Kp.new ntp)).put npa, (B12.new ntp).put npb npl, npb, npl, npa, PairsZ.put hz13.1 ?_, ?_, by rw [List.length_append]; omega, by rw [List.length_append]; show pz.length + 1 ≤ 12 + (i + 1); omega, z0, z1⟩
      · intro a ha
        rcases List.mem_append.mp ha with ha | ha
        · exact hz13.2 a ha
        · rw [List.mem_singleton.mp ha]
          exact t13
      · intro z hzz
        rw [List.map_append] at hzz
        rcases List.mem_append.mp hzz with q | q
        · exact good z q
        · rw [List.mem_singleton.mp q]
          exact ⟨u0, u1, h0, h1, fun z => hne z.symm⟩
    rintro σ H10 ⟨pa, size, pz, y3, y4, y5, rfl, K10, B10, npb, npl, npa, hz, good, l0, l1, z0, z1⟩
    refine ⟨_, rfl, _, rfl, _, rfl, b, l, 2, rfl, B10, by decide, by decide, fun H11 g k11 B11 g0 g1 => ⟨_, _, rfl, rfl, _, rfl, ?_⟩⟩
    have hz11 := hz.keep B10.hbl npb k11
    refine ⟨b, l, size + g, pa, pz.map (·.2), rfl, B11, hz11.at, npb, by omega, by omega, ?_, by rw [List.length_map]; omega, fun H12 t ms es k12 B12 raw => hand _ t ms es (K10.trans (k11.trans k12)) B12 raw⟩
    intro z hzz
    obtain ⟨h1, h2, h3, h4, h5⟩ := good z hzz
    exact ⟨h1, by omega, h3, by omega, h5⟩
end


end T06

/-! the notes of a web -/
namespace Tm
open PySem PySem.Spec PyProof.Rows L2
abbrev Tri := Nat × Int × Int
/-- two edges share an end -/
def meetT (a b : Tri) : Bool := decide (b.2.1 = a.2.1 ∨ b.2.2 = a.2.1) || decide (b.2.1 = a.2.2 ∨ b.2.2 = a.2.2)
def pairsT : List Tri → List (List Nat)
  | [] => []
  | a :: r => ((r.filter fun b => !meetT a b).map fun b => [a.1, b.1]) ++ pairsT r
def noteRow (ts : List Tri) (a : Tri) : List (List Nat) := (ts.filter fun b => decide (a.1 < b.1) && !meetT a b).map fun b => [a.1, b.1]
def notesT (ts : List Tri) : List (List Nat) := ts.flatMap (noteRow ts)
theorem notes_behind : ∀ (s p : List Tri), ((p ++ s).map (·.1)).Pairwise (· < ·) → s.flatMap (noteRow (p ++ s)) = pairsT s
  | [], _, _ => rfl
  | a :: r, p, h => by
    have rest := notes_behind r (p ++ [a]) (by rw [List.append_assoc]; exact h)
    rw [List.append_assoc] at rest
    rw [List.flatMap_cons]
    show noteRow (p ++ a :: r) a ++ r.flatMap (noteRow (p ++ ([a] ++ r))) = _
    rw [rest]
    show _ = ((r.filter fun b => !meetT a b).map fun b => [a.1, b.1]) ++ pairsT r
    congr 1
    unfold noteRow
    rw [List.map_append, List.pairwise_append] at h
    obtain ⟨_, hr, hp⟩ := h
    have e1 : (p.filter fun b => decide (a.1 < b.1) && !meetT a b) = [] := by
      rw [List.filter_eq_nil_iff]
      intro b hb
      have := hp b.1 (List.mem_map.mpr ⟨b, hb, rfl⟩) a.1 (List.mem_map.mpr ⟨a, List.mem_cons_self, rfl⟩)
      simp only [Bool.and_eq_true, decide_eq_true_eq, not_and]
      omega
    have e2 : (r.filter fun b => decide (a.1 < b.1) && !meetT a b) = r.filter fun b => !meetT a b := by
      apply List.filter_congr
      intro b hb
      have := (List.pairwise_cons.mp hr).1 b.1 (List.mem_map.mpr ⟨b, hb, rfl⟩)
      rw [decide_eq_true this, Bool.true_and]
    rw [List.filter_append, e1, List.nil_append, List.filter_cons, if_neg (by simp), e2]
theorem notes_pairs (ts : List Tri) (h : (ts.map (·.1)).Pairwise (· < ·)) : notesT ts = pairsT ts := notes_behind ts [] h
theorem pairs_len : ∀ ts : List Tri, (pairsT ts).length ≤ ts.length * ts.length
  | [] => Nat.zero_le _
  | a :: r => by
    show (((r.filter fun b => !meetT a b).map fun b => [a.1, b.1]) ++ pairsT r).length ≤ _
    rw [List.length_append, List.length_map]
    have h1 := List.length_filter_le (fun b => !meetT a b) r
    have h2 := pairs_len r
    have h3 : (r.length + 1) * (r.length + 1) = r.length * r.length + 2 * r.length + 1 := by
      rw [Nat.add_mul, Nat.mul_add]
      omega
    show _ ≤ (r.length + 1) * (r.length + 1)
    omega
def tw (ns : List Nat) : V := .str (txt ns)
/-- a walk with any body -/
theorem go_it {J : It} {n : Nat} {G : Hp → Prop} {Y : Nat → Hp → V → Hp → Prop} (walk : Walk J n G Y) {B : V → Hp → (Hp → Prop) → Prop} {H0 : Hp} {End : Hp → Prop} (Pv : Nat → Hp → Prop) (first : Pv 0 H0) (stay : ∀ i H, i ≤ n → Pv i H → G H)
    (turn : ∀ i x H H', i < n → Pv i H → Y i H x H' → B x H' (Pv (i + 1))) (done : ∀ H, Pv n H → End H) :
    ∃ W : Nat → Nat → Hp → Prop, (∃ m, W 0 m H0) ∧ ∀ i m H, W i m H → (J.stop i H ∧ End H) ∨ (J.go i H ∧ ∃ Nx : Hp → Prop, (∀ H', Nx H' → ∃ m', m' < m ∧ W (i + 1) m' H') ∧ ∀ x H', J.yld i H x H' → B x H' Nx) := by
  let W : Nat → Nat → Hp → Prop := fun i left H => i + left = n ∧ Pv i H
  refine ⟨W, ⟨n, Nat.zero_add n, first⟩, ?_⟩
  intro i left H here
  have stands := stay i H (by have := here.1; omega) here.2
  cases left with
  | zero =>
    have e : i = n := by have := here.1; omega
    rw [e] at here ⊢
    exact Or.inl ⟨walk.stops H stands, done H here.2⟩
  | succ k =>
    have lt : i < n := by have := here.1; omega
    refine Or.inr ⟨walk.goes i H lt stands, Pv (i + 1), ?_, ?_⟩
    · intro H' hp
      exact ⟨k, Nat.lt_succ_self k, by have := here.1; omega, hp⟩
    · intro x H' y
      exact turn i x H H' lt here.2 (walk.yields i H x H' lt stands y)
def spTouch (C : Addr) : Sp := fun vs H Q _ => ∃ (x : Addr) (e f : Edg) (ms : List (Int × Int)) (es : List Edg), vs = [.ref x, .str (txt [e.letter]), .str (txt [f.letter])] ∧ WebAt C H x ms es ∧ e ∈ es ∧ f ∈ es ∧ Q (.bl (meetT (tri e) (tri f))) H
def spNotes (C : Addr) : Sp := fun vs H Q _ => ∃ (x : Addr) (ms : List (Int × Int)) (es : List Edg), vs = [.ref x] ∧ WebAt C H x ms es ∧ es.length ≤ 24 ∧ ∀ H' p, Same H H' → H p = none → H' p = some (.lst ((notesT (es.map tri)).map tw)) → Q (.ref p) H'
def spLWebG (C : Addr) : Sp := fun vs H Q _ => ∃ (t : Addr) (ms : List (Int × Int)) (es : List Edg), vs = [.ref t] ∧ RawG H t ms es ∧
  ∀ H' x ms' es', Same H H' → WebAt C H' x ms' es' → Made ms ms' es es' → Q (.ref x) H'
def spMeets : Sp := fun vs H Q _ => ∃ (t : Addr) (e f : Edg) (ms : List (Int × Int)) (es : List Edg), vs = [.ref t, .str (txt [e.letter]), .str (txt [f.letter])] ∧ RawG H t ms es ∧ e ∈ es ∧ f ∈ es ∧ ∀ H', Same H H' → Q (.bl (meetT (tri e) (tri f))) H'
def spLPairs : Sp := fun vs H Q _ => ∃ (t : Addr) (ms : List (Int × Int)) (es : List Edg), vs = [.ref t] ∧ RawG H t ms es ∧ ∀ H' p ts, Same H H' → H p = none → ts.Perm (es.map tri) → (ts.map (·.1)).Pairwise (· < ·) → H' p = some (.lst ((pairsT ts).map tw)) → Q (.ref p) H'
theorem RawG.keep {H H' : Hp} {b l t : Addr} {ms : List (Int × Int)} {es : List Edg} (r : RawG H t ms es) (B : Bag H b l) (k : Kp b H H') : RawG H' t ms es := by
  obtain ⟨u, hb⟩ := B.hbl
  obtain ⟨dm, de, h1, h2, h3, h4, ⟨n1, n2, n3, h5⟩, h6⟩ := r
  have ne : ∀ {a : Addr} {o : HO}, H a = some o → (∀ u, o ≠ .lst u) → a ≠ b := fun ha hn e => by
    rw [e, hb] at ha
    exact hn u (Option.some.inj ha).symm
  exact ⟨dm, de, k _ _ (ne h1 fun u z => by cases z) h1, k _ _ (ne h2 fun u z => by cases z) h2, k _ _ (ne h3 fun u z => by cases z) h3, h4, ⟨n1, n2, n3, fun e he => ⟨k _ _ (ne (h5 e he).1 fun u z => by cases z) (h5 e he).1, (h5 e he).2⟩⟩, h6⟩
end Tm

namespace T06
open PySem PySem.Spec PyProof.Rows L2 Tm
open ClX
abbrev sChkD : Stmt := inClass (topS 22) 13
theorem scChkD : FnScope ["self", "edge"] ["self", "edge"] (defScope sChkD) := ⟨rfl, rfl, rfl, by decide +kernel, rfl, by decide +kernel, by decide +kernel⟩
section
variable {P : Program} {w : World} {K : PySem.W.Frag} {mg : Str → Option Value} {base : Heap}
theorem ok_chkd {f C : Addr} {fd : FuncData} (F : Fun K "check_edge" "Web.check_edge" sChkD f fd) (U : WebT K mg C) : FnOk P w K mg base CX0 1 f fd ["self", "edge"] (spChkD C) := by
  refine F.ok scChkD (fun vs H Q E h => ?_) (fun cdv A outer s H vs Q E hr h => ?_)
  · obtain ⟨x, e, ms, es, rfl, _⟩ := h
    rfl
  · obtain ⟨x, e, ms, es, rfl, ⟨dx, a1, a2, a3, hx, _, h2, _, ok⟩, he, q⟩ := h
    have ev := end_at (ok.risE.imp fun hab z => by rw [z] at hab; exact Nat.lt_irrefl _ hab) he
    refine ⟨_, pss_one (ps_if (pt_cmp (pc_dnotin (hu_of hr) (pv 1) (pe_fld (pv 0) rfl))) pss_never pss_nil), ?_⟩
    refine ⟨_, rfl, _, rfl, x, C, dx, _, _, rfl, hx, U.cl, U.nP, webF_pairs _ _ _, a2, _, rfl, DGet.k (k := Sum.inr (txt [e.letter])) h2, _, rfl, ?_⟩
    rw [ev]
    exact iteF q
end

open ClX
abbrev sEdges : Stmt := inClass (topS 22) 15
theorem scEdges : FnScope ["self"] ["self"] (defScope sEdges) := ⟨rfl, rfl, rfl, by decide +kernel, rfl, by decide +kernel, by decide +kernel⟩
section
variable {P : Program} {w : World} {K : PySem.W.Frag} {mg : Str → Option Value} {base : Heap}
theorem ok_edges {f C : Addr} {fd : FuncData} (F : Fun K "edges" "Web.edges" sEdges f fd) (U : WebT K mg C) (ml : mg "list" = none) : FnOk P w K mg base CX0 1 f fd ["self"] (spEdges C) := by
  refine F.ok scEdges (fun vs H Q E h => ?_) (fun cdv A outer s H vs Q E hr h => ?_)
  · obtain ⟨x, ms, es, rfl, _⟩ := h
    rfl
  · obtain ⟨x, ms, es, rfl, ⟨dx, a1, a2, a3, hx, _, h2, _⟩, q⟩ := h
    refine ⟨_, pss_one (ps_ret (pe_callTy (call_listD rfl) (by rfl) ml boot_list (pa_cons (pe_fld (pv 0) rfl) pa_nil))), ?_⟩
    refine ⟨_, rfl, x, C, dx, _, _, rfl, hx, U.cl, U.nP, webF_pairs _ _ _, a2, _, rfl, .inl h2, fun p np => ?_⟩
    have e : ((endsK es).map fun kv => kV kv.1) = (es.map (·.letter)).map sig := by
      unfold endsK
      rw [List.map_map, List.map_map]
      rfl
    rw [e]
    exact q p np
end

open ClX
abbrev sLWeb : Stmt := topS 36
theorem scLWeb : FnScope ["_law_raw_here"] ["_law_raw_here"] (defScope sLWeb) := ⟨rfl, rfl, rfl, by decide +kernel, rfl, by decide +kernel, by decide +kernel⟩
section
variable {P : Program} {w : World} {K : PySem.W.Frag} {mg : Str → Option Value} {base : Heap}
theorem ok_lwebg {f fI C : Addr} {fd fdI : FuncData} (F : Fun K "_law_web" "_law_web" sLWeb f fd) (M : Mk K C fI) (GI : FnOk P w K mg base CX0 3 fI fdI ["self", "marks", "edges"] (spWInit C)) (bI : Binds K fdI ["self", "marks", "edges"] [])
    (mw : mg "Web" = some (.ref C)) (md : mg "dict" = none) : FnOk P w K mg base CX0 5 f fd ["_law_raw_here"] (spLWebG C) := by
  refine F.ok scLWeb (fun vs H Q E h => ?_) (fun cdv A outer s H vs Q E hr h => ?_)
  · obtain ⟨t, ms, es, rfl, _⟩ := h
    rfl
  · obtain ⟨t, ms, es, rfl, ⟨dm, de, ht, hm, he, mok, eok, less⟩, q⟩ := h
    have st : SqT K H t [.ref dm, .ref de] := .inl (.inl ht)
    refine ⟨_, pss_one (ps_ret (pe_make M GI hr (by rfl) mw bI .nil pass0 (pa_cons (pe_callTy call_dictD (by rfl) md boot_dict (pa_cons (pe_ix ix_tup (pv 0) pe_int (fun _ _ => rfl)) pa_nil)) (pa_cons (pe_callTy call_dictD (by rfl) md boot_dict (pa_cons (pe_ix ix_tup (pv 0) pe_int (fun _ _ => rfl)) pa_nil)) pa_nil)))), ?_⟩
    refine ⟨_, rfl, t, _, 0, .ref dm, rfl, rfl, st, rfl, dm, _, rfl, .inl hm, fun d1 n1 => ?_⟩
    have s1 : Same H (upd H d1 (.dK (marksK ms))) := same_upd n1
    refine ⟨_, rfl, t, _, 1, .ref de, rfl, rfl, .inl (.inl (s1 _ _ ht)), rfl, de, _, rfl, .inl (s1 _ _ he), fun d2 n2 => ?_⟩
    have s2 := s1.trans (same_upd (o := .dK (endsK es)) n2)
    have h1 : (upd (upd H d1 (.dK (marksK ms))) d2 (.dK (endsK es))) d1 = some (.dK (marksK ms)) := (same_upd n2) _ _ upd_same
    have h2 : (upd (upd H d1 (.dK (marksK ms))) d2 (.dK (endsK es))) d2 = some (.dK (endsK es)) := upd_same
    generalize upd (upd H d1 (.dK (marksK ms))) d2 (.dK (endsK es)) = H2 at s2 h1 h2 ⊢
    intro x dx nx ndx nex
    have s3 : Same H2 (upd (upd H2 dx (.own x)) x (.ins C dx [])) := fun b o e => by
      rw [upd_ne (ne_of_none e nx), upd_ne (ne_of_none e ndx)]
      exact e
    have fx : H x = none := s2.free nx
    refine ⟨x, dx, d1, d2, ms, es, rfl, upd_same, s3 _ _ h1, s3 _ _ h2, ?_, ?_, fun H' ms' es' kp web made => ⟨rfl, ?_⟩⟩
    · exact mok
    · exact eok.same (s2.trans s3)
    · refine q H' x ms' es' (fun b o e => kp b o (fun z => by rw [z, fx] at e; cases e) (s3 _ _ (s2 _ _ e))) web made
end

open ClX
abbrev sTouch : Stmt := inClass (topS 22) 21
theorem scTouch : FnScope ["self", "one", "other", "first", "second"] ["self", "one", "other"] (defScope sTouch) := ⟨rfl, rfl, rfl, by decide +kernel, rfl, by decide +kernel, by decide +kernel⟩
section
variable {P : Program} {w : World} {K : PySem.W.Frag} {mg : Str → Option Value} {base : Heap}
theorem ok_touch {f fD C : Addr} {fd fdD : FuncData} (F : Fun K "touch" "Web.touch" sTouch f fd) (FD : Fun K "check_edge" "Web.check_edge" sChkD fD fdD) (bD : Binds K fdD ["self", "edge"] []) (mD : Meth K C "check_edge" fD) (U : WebT K mg C) : FnOk P w K mg base CX0 2 f fd ["self", "one", "other"] (spTouch C) := by
  have GD : FnOk P w K mg base CX0 1 fD fdD ["self", "edge"] (spChkD C) := ok_chkd FD U
  refine F.ok scTouch (fun vs H Q E h => ?_) (fun cdv A outer s H vs Q E hr h => ?_)
  · obtain ⟨x, e, g, ms, es, rfl, _⟩ := h
    rfl
  · obtain ⟨x, e, g, ms, es, rfl, web, he, hg, q⟩ := h
    obtain ⟨dx, a1, a2, a3, hx, h1, h2, h3, ok⟩ := id web
    have nd : (es.map (·.letter)).Nodup := ok.risE.imp fun hab z => by rw [z] at hab; exact Nat.lt_irrefl _ hab
    have gotE : DGet H a2 (.str (txt [e.letter])) (some (.ref e.pair)) := end_at nd he ▸ DGet.k (k := Sum.inr (txt [e.letter])) h2
    have gotG : DGet H a2 (.str (txt [g.letter])) (some (.ref g.pair)) := end_at nd hg ▸ DGet.k (k := Sum.inr (txt [g.letter])) h2
    refine ⟨_, pss_cons (ps_expr (pe_meth (pv 0) U.cl mD GD hr bD .nil pass0 (pa_cons (pv 1) pa_nil)))
      (pss_cons (ps_expr (pe_meth (pv 0) U.cl mD GD hr bD .nil pass0 (pa_cons (pv 2) pa_nil)))
      (pss_cons (ps_asg (pe_dget (hu_of hr) (pe_fld (pv 0) rfl) (pv 1) (fun _ _ => rfl)) (pg_tup rfl (pgs_cons (pg_name (i := 3) scTouch.nd rfl (.inl rfl)) (pgs_cons (pg_name (i := 4) scTouch.nd rfl (.inl rfl)) pgs_nil))))
      (pss_one (ps_ret (pe_or (pe_cmpR op_in_seq (pv 3) (pe_dget (hu_of hr) (pe_fld (pv 0) rfl) (pv 2) (fun _ _ => rfl)) (by rfl)) (pe_one (pe_cmpR op_in_seq (pv 4) (pe_dget (hu_of hr) (pe_fld (pv 0) rfl) (pv 2) (fun _ _ => rfl)) (by rfl)))))))), ?_⟩
    have no : (webF a1 a2 a3).lookup ("check_edge" : Str) = none := webF_no a1 a2 a3 (by decide +kernel) (by decide +kernel) (by decide +kernel)
    refine ⟨_, rfl, x, dx, _, rfl, hx, no, _, rfl, x, e, ms, es, rfl, web, he, ?_⟩
    refine ⟨_, rfl, x, dx, _, rfl, hx, no, _, rfl, x, g, ms, es, rfl, web, hg, ?_⟩
    refine ⟨_, rfl, x, C, dx, _, _, rfl, hx, U.cl, U.nP, webF_pairs _ _ _, _, rfl, a2, _, rfl, gotE, e.pair, _, rfl, SqT.of (ok.pair e he), rfl, _, _, rfl, _, _, rfl, rfl, ?_⟩
    refine ⟨_, rfl, _, rfl, x, C, dx, _, _, rfl, hx, U.cl, U.nP, webF_pairs _ _ _, _, rfl, a2, _, rfl, gotG, g.pair, _, rfl, .inr (SqT.of (ok.pair g hg)), rfl, rfl, _, rfl, ?_⟩
    rw [in_two]
    simp only [Bool.false_eq_true, if_false]
    by_cases c1 : g.lo = e.lo ∨ g.hi = e.lo
    · rw [decide_eq_true c1]
      refine iteT ?_
      have m : meetT (tri e) (tri g) = true := by unfold meetT tri; simp [c1]
      rw [m] at q
      exact q
    · rw [decide_eq_false c1]
      refine iteF ?_
      refine ⟨_, rfl, _, rfl, x, C, dx, _, _, rfl, hx, U.cl, U.nP, webF_pairs _ _ _, _, rfl, a2, _, rfl, gotG, g.pair, _, rfl, .inr (SqT.of (ok.pair g hg)), rfl, rfl, ?_⟩
      rw [in_two]
      simp only [Bool.false_eq_true, if_false]
      have m : meetT (tri e) (tri g) = decide (g.lo = e.hi ∨ g.hi = e.hi) := by unfold meetT tri; simp [c1]
      rw [m] at q
      exact q
end


end T06

namespace T06
open PySem PySem.Spec PyProof.Rows L2 Tm
open ClX
abbrev sNotes : Stmt := inClass (topS 22) 23
theorem scNotes : FnScope ["self", "names", "one", "other"] ["self"] (defScope sNotes) := ⟨rfl, rfl, rfl, by decide +kernel, rfl, by decide +kernel, by decide +kernel⟩
theorem sig_txt (c : Nat) : sig c = .str (txt [c]) := rfl
theorem take_row (ts : List Tri) (a : Tri) {j : Nat} (hj : j < ts.length) : noteRow (ts.take (j + 1)) a = noteRow (ts.take j) a ++ (if decide (a.1 < ts[j].1) && !meetT a ts[j] then [[a.1, ts[j].1]] else []) := by
  unfold noteRow
  rw [List.take_succ_eq_append_getElem hj, List.filter_append, List.map_append]
  congr 1
  cases h : (decide (a.1 < ts[j].1) && !meetT a ts[j]) <;> simp [h]
section
variable {P : Program} {w : World} {K : PySem.W.Frag} {mg : Str → Option Value} {base : Heap}
theorem ok_notes {f fE fD fT C : Addr} {fd fdE fdD fdT : FuncData} (F : Fun K "notes" "Web.notes" sNotes f fd) (FE : Fun K "edges" "Web.edges" sEdges fE fdE) (bE : Binds K fdE ["self"] []) (mE : Meth K C "edges" fE)
    (FD : Fun K "check_edge" "Web.check_edge" sChkD fD fdD) (bD : Binds K fdD ["self", "edge"] []) (mD : Meth K C "check_edge" fD) (FT : Fun K "touch" "Web.touch" sTouch fT fdT) (bT : Binds K fdT ["self", "one", "other"] []) (mT : Meth K C "touch" fT) (U : WebT K mg C) (ml : mg "list" = none) : FnOk P w K mg base CX0 3 f fd ["self"] (spNotes C) := by
  have GE : FnOk P w K mg base CX0 1 fE fdE ["self"] (spEdges C) := ok_edges FE U ml
  have GT : FnOk P w K mg base CX0 2 fT fdT ["self", "one", "other"] (spTouch C) := ok_touch FT FD bD mD U
  refine F.ok scNotes (fun vs H Q E h => ?_) (fun cdv A outer s H vs Q E hr h => ?_)
  · obtain ⟨x, ms, es, rfl, _⟩ := h
    rfl
  · obtain ⟨x, ms, es, rfl, web, few, q⟩ := h
    have hr1 : Room 1 _ := hr.mono (by decide)
    obtain ⟨dx, a1, a2, a3, hx, h1, h2, h3, ok⟩ := id web
    refine ⟨_, pss_cons (ps_set (i := 1) scNotes.nd rfl (.inr rfl) (pe_meth0 (pv 0) U.cl mE GE hr1 bE .nil pass0))
      (pss_one (ps_ret (pe_lc2 (own := [("one", 2), ("other", 3)]) (vs1 := [3]) (g := gName 2) (g1 := gName 3) (tt := tYes) rfl scNotes.nd (pi_list (pv 1)) (blkOk_by (own := [("one", 2), ("other", 3)]) (N := ["self", "names", "one", "other"]) (sc := defScope sNotes) (by decide +kernel)) (by decide)
        (fun _ _ _ _ _ => pg_name (i := 2) scNotes.nd rfl (Or.inl rfl)) (fun _ _ _ _ _ => pts_nil) (fun _ _ _ _ _ => (show PI _ _ _ (iList K (tVar 1)) from pi_list (pv 1))) (fun _ _ _ _ _ => pg_name (i := 3) scNotes.nd rfl (Or.inl rfl))
        (fun _ _ _ _ _ => pts_one (PW.pt (pw_and (pt_cmpR op_lt_str (pv 2) (pv 3) (nomark _)) (pw_and1 (pt_not (pt_val (pe_meth (pv 0) U.cl mT GT hr bT .nil pass0 (pa_cons (pv 2) (pa_cons (pv 3) pa_nil)))))))))
        (fun _ _ _ _ _ => pe_op op_add_str (pv 2) (pv 3))))), ?_⟩
    have no : ∀ {m : Str}, ¬ m = "marks" → ¬ m = "pairs" → ¬ m = "stars" → (webF a1 a2 a3).lookup m = none := fun h1 h2 h3 => webF_no a1 a2 a3 h1 h2 h3
    refine ⟨_, rfl, x, dx, _, rfl, hx, no (by decide +kernel) (by decide +kernel) (by decide +kernel), x, ms, es, rfl, web, fun p np => ?_⟩
    have s1 : Same H (upd H p (.lst ((es.map (·.letter)).map sig))) := same_upd np
    have hp : (upd H p (.lst ((es.map (·.letter)).map sig))) p = some (.lst ((es.map (·.letter)).map sig)) := upd_same
    generalize upd H p (.lst ((es.map (·.letter)).map sig)) = H1 at s1 hp ⊢
    have item : ∀ {i : Nat} {v : V}, ((es.map (·.letter)).map sig)[i]? = some v → ∃ hi : i < es.length, v = sig es[i].letter := by
      intro i v hv
      have hi : i < es.length := by
        have := (List.getElem?_eq_some_iff.mp hv).1
        rwa [List.length_map, List.length_map] at this
      rw [List.map_map, List.getElem?_map, List.getElem?_eq_getElem hi] at hv
      exact ⟨hi, (Option.some.inj hv).symm⟩
    have len1 : ((es.map (·.letter)).map sig).length = es.length := by rw [List.length_map, List.length_map]
    have lent : (es.map tri).length = es.length := List.length_map ..
    refine ⟨_, rfl, p, rfl, ⟨_, SqL.of hp⟩, fun D nD => ?_⟩
    have fD : H D = none := s1.free nD
    have rowlen : ∀ (ts : List Tri) (a : Tri), (noteRow ts a).length ≤ ts.length := fun ts a => by
      unfold noteRow
      rw [List.length_map]
      exact List.length_filter_le _ _
    have flatlen : ∀ ts : List Tri, (ts.flatMap (noteRow (es.map tri))).length ≤ ts.length * 24 := by
      intro ts
      induction ts with
      | nil => exact Nat.zero_le _
      | cons a r ih =>
        rw [List.flatMap_cons, List.length_append, List.length_cons, Nat.succ_mul]
        have := rowlen (es.map tri) a
        omega
    refine go_it (walk_list (xs := (es.map (·.letter)).map sig)) (fun i J => Same H1 J ∧ J D = some (.lst ((((es.map tri).take i).flatMap (noteRow (es.map tri))).map tw))) ⟨same_upd nD, upd_same⟩ (fun i J _ hv => SqL.of (hv.1 _ _ hp)) ?_ ?_
    · rintro i v J J' hi ⟨sJ, hD⟩ ⟨rfl, hv⟩
      obtain ⟨hi, rfl⟩ := item hv
      refine ⟨rfl, ?_⟩
      have hit : i < (es.map tri).length := by rw [lent]; exact hi
      have ei : (es.map tri)[i] = tri es[i] := List.getElem_map ..
      refine ⟨_, rfl, p, rfl, ⟨_, SqL.of (sJ _ _ hp)⟩, ?_⟩
      refine go_it (walk_list (xs := (es.map (·.letter)).map sig)) (fun j L => Same H1 L ∧ L D = some (.lst ((((es.map tri).take i).flatMap (noteRow (es.map tri)) ++ noteRow ((es.map tri).take j) (tri es[i])).map tw))) ⟨sJ, by rw [hD]; simp [noteRow]⟩ (fun j L _ hv => SqL.of (hv.1 _ _ hp)) ?_ ?_
      · rintro j v L L' hj ⟨sL, hDL⟩ ⟨rfl, hv⟩
        obtain ⟨hj, rfl⟩ := item hv
        have hjt : j < (es.map tri).length := by rw [lent]; exact hj
        have ej : (es.map tri)[j] = tri es[j] := List.getElem_map ..
        have row := take_row (es.map tri) (tri es[i]) hjt
        rw [ej] at row
        refine ⟨rfl, ?_⟩
        refine ⟨_, rfl, _, rfl, _, _, rfl, rfl, _, rfl, ?_⟩
        have lt : decide ((txt [es[i].letter]).cps.toList < (txt [es[j].letter]).cps.toList) = decide ((tri es[i]).1 < (tri es[j]).1) := by
          rw [txt_cps, txt_cps]
          apply decide_eq_decide.mpr
          show [es[i].letter] < [es[j].letter] ↔ es[i].letter < es[j].letter
          rw [List.cons_lt_cons_iff]
          simp
        have lt2 : decide ((⟨#[es[i].letter]⟩ : Str).cps.toList < (⟨#[es[j].letter]⟩ : Str).cps.toList) = decide ((tri es[i]).1 < (tri es[j]).1) := lt
        rw [lt2]
        have small : ((((es.map tri).take i).flatMap (noteRow (es.map tri)) ++ noteRow ((es.map tri).take j) (tri es[i])).map tw).length < sizeLine := by
          rw [List.length_map, List.length_append]
          have l1 := flatlen ((es.map tri).take i)
          have l2 := rowlen ((es.map tri).take j) (tri es[i])
          rw [List.length_take] at l1 l2
          exact small1000 (by omega)
        cases c : decide ((tri es[i]).1 < (tri es[j]).1) with
        | false =>
          refine iteF (iteF ⟨sL, ?_⟩)
          rw [row, c]
          simpa using hDL
        | true =>
          refine iteT ?_
          have webL := web.same (s1.trans sL)
          obtain ⟨dx', b1, b2, b3, hx', _⟩ := id webL
          refine ⟨_, rfl, x, dx, _, rfl, s1.trans sL _ _ hx, no (by decide +kernel) (by decide +kernel) (by decide +kernel), _, rfl, _, rfl, x, es[i], es[j], ms, es, rfl, webL, List.getElem_mem hi, List.getElem_mem hj, _, rfl, ?_⟩
          cases m : meetT (tri es[i]) (tri es[j]) with
          | true =>
            refine iteF ⟨sL, ?_⟩
            rw [row, c, m]
            simpa using hDL
          | false =>
            refine iteT ⟨_, rfl, _, rfl, _, _, rfl, rfl, by show 1 + 1 ≤ sizeLine; decide, _, hDL, small, same_put sL nD, ?_⟩
            rw [upd_same, row, c, m]
            have e2 : V.str ((⟨#[es[i].letter]⟩ : Str) ++ (⟨#[es[j].letter]⟩ : Str)) = tw [es[i].letter, es[j].letter] := congrArg V.str (txt_app [es[i].letter] [es[j].letter])
            rw [e2]
            simp [tri]
      · rintro L ⟨sL, hDL⟩
        refine ⟨sL, ?_⟩
        rw [len1, ← lent, List.take_length] at hDL
        rw [hDL, List.take_succ_eq_append_getElem hit, List.flatMap_append, ei]
        simp
    · rintro J ⟨sJ, hD⟩
      rw [len1, ← lent, List.take_length] at hD
      exact q J D (s1.trans sJ) fD hD
end


end T06

namespace T06
open PySem PySem.Spec PyProof.Rows L2 Tm
abbrev sMeets : Stmt := topS 37
abbrev sLPairs : Stmt := topS 38
abbrev sSome : Stmt := topS 35
theorem scMeets : FnScope ["_law_raw_here", "_law_first", "_law_last", "_law_point"] ["_law_raw_here", "_law_first", "_law_last"] (defScope sMeets) := ⟨rfl, rfl, rfl, by decide +kernel, rfl, by decide +kernel, by decide +kernel⟩
theorem scLPairs : FnScope ["_law_raw_here", "_law_letters_here", "_law_found", "_law_at", "_law_last"] ["_law_raw_here"] (defScope sLPairs) := ⟨rfl, rfl, rfl, by decide +kernel, rfl, by decide +kernel, by decide +kernel⟩
theorem scSome : FnScope ["_law_bag_here"] ["_law_bag_here"] (defScope sSome) := ⟨rfl, rfl, rfl, by decide +kernel, rfl, by decide +kernel, by decide +kernel⟩
theorem cutV_drop (xs : List V) (k : Nat) : cutV xs (some (k : Int)) none = xs.drop k := by
  unfold cutV
  rw [HT.sIx_none, HT.sIx_nat]
  by_cases h : k ≤ xs.length
  · rw [Nat.min_eq_left h, List.take_of_length_le (by rw [List.length_drop]; exact Nat.le_refl _)]
  · rw [Nat.min_eq_right (by omega), Nat.sub_self, List.take_zero, List.drop_of_length_le (by omega)]
/-- the edges of a drawn web by their letters -/
theorem in_order {es : List Edg} {ys : List Str} (p : ys.Perm (es.map fun e => txt [e.letter])) (r : sortedS ys = true) (nd : (es.map (·.letter)).Nodup) : ∃ es1 : List Edg, es1.Perm es ∧ ys = es1.map (fun e => txt [e.letter]) ∧ (es1.map (·.letter)).Pairwise (· < ·) := by
  obtain ⟨es1, p1, rfl⟩ := perm_lift (fun e : Edg => txt [e.letter]) ys es p
  refine ⟨es1, p1, rfl, ?_⟩
  refine letters_rise (cs := es1.map (·.letter)) ?_ ((p1.map _).nodup_iff.mpr nd)
  rw [List.map_map]
  exact r
section
variable {P : Program} {w : World} {K : PySem.W.Frag} {mg : Str → Option Value} {base : Heap}
theorem ok_meets {f : Addr} {fd : FuncData} (F : Fun K "_law_meets" "_law_meets" sMeets f fd) (mn : mg "any" = none) : FnOk P w K mg base CX0 1 f fd ["_law_raw_here", "_law_first", "_law_last"] spMeets := by
  refine F.ok scMeets (fun vs H Q E h => ?_) (fun cdv A outer s H vs Q E hr h => ?_)
  · obtain ⟨t, e, g, ms, es, rfl, _⟩ := h
    rfl
  · obtain ⟨t, e, g, ms, es, rfl, ⟨dm, de, ht, hm, hd, mok, ⟨nd, few, name, pair⟩, less⟩, he, hg, q⟩ := h
    refine ⟨_, pss_one (ps_ret (pe_callB (cr_any rfl) (by rfl) mn boot_any (pa_cons (pe_lc (own := [("_law_point", 3)]) (g := gName 3) (tt := tYes) rfl scMeets.nd (pi_tup (pe_dget (hu_of hr) (pe_ix ix_tup (pv 0) pe_int (fun _ _ => rfl)) (pv 1) (fun _ _ => rfl)))
      (blkOk_by (own := [("_law_point", 3)]) (N := ["_law_raw_here", "_law_first", "_law_last", "_law_point"]) (sc := defScope sMeets) (by decide +kernel)) (fun _ _ _ _ _ => pg_name (i := 3) scMeets.nd rfl (Or.inl rfl)) (fun _ _ _ _ _ => pts_nil)
      (fun _ _ _ _ _ => pe_cmpR (show OpR _ _ (rIn K false) from op_in_seq) (pv 3) (pe_dget (hu_of hr) (pe_ix (show IxR _ (rIxT K) from ix_tup) (pv 0) pe_int (fun _ _ => rfl)) (pv 2) (fun _ _ => rfl)) (by rfl))) pa_nil))), ?_⟩
    have gotE : ∀ {J : Hp}, Same H J → DGet J de (.str (txt [e.letter])) (some (.ref e.pair)) := fun s => end_at nd he ▸ DGet.k (k := Sum.inr (txt [e.letter])) (s _ _ hd)
    have gotG : ∀ {J : Hp}, Same H J → DGet J de (.str (txt [g.letter])) (some (.ref g.pair)) := fun s => end_at nd hg ▸ DGet.k (k := Sum.inr (txt [g.letter])) (s _ _ hd)
    refine ⟨_, rfl, t, _, 1, .ref de, rfl, rfl, .inl (.inl ht), rfl, _, rfl, de, _, rfl, gotE (Same.refl _), e.pair, rfl, ⟨_, SqT.of (pair e he).1⟩, fun D nD => ?_⟩
    refine lc_tup (K := K) (a := e.pair) (xs := [.int e.lo, .int e.hi]) (fun i J => Same H J ∧ J D = some (.lst ((([decide (g.lo = e.lo ∨ g.hi = e.lo), decide (g.lo = e.hi ∨ g.hi = e.hi)] : List Bool).take i).map V.bl))) ⟨same_upd nD, upd_same⟩ (fun i J _ hv => SqT.of (hv.1 _ _ (pair e he).1)) ?_ ?_
    · rintro i v J hv ⟨sJ, hD⟩
      match i, hv with
      | 0, hv =>
        cases hv
        refine ⟨rfl, ?_⟩
        refine ⟨_, rfl, _, rfl, t, _, 1, .ref de, rfl, rfl, .inl (.inl (sJ _ _ ht)), rfl, _, rfl, de, _, rfl, gotG sJ, g.pair, _, rfl, .inr (SqT.of (sJ _ _ (pair g hg).1)), rfl, rfl, ?_⟩
        rw [in_two]
        simp only [Bool.false_eq_true, if_false]
        refine ⟨_, hD, by show 0 < sizeLine; decide, same_put sJ nD, ?_⟩
        rw [upd_same]
        rfl
      | 1, hv =>
        cases hv
        refine ⟨rfl, ?_⟩
        refine ⟨_, rfl, _, rfl, t, _, 1, .ref de, rfl, rfl, .inl (.inl (sJ _ _ ht)), rfl, _, rfl, de, _, rfl, gotG sJ, g.pair, _, rfl, .inr (SqT.of (sJ _ _ (pair g hg).1)), rfl, rfl, ?_⟩
        rw [in_two]
        simp only [Bool.false_eq_true, if_false]
        refine ⟨_, hD, by show 1 < sizeLine; decide, same_put sJ nD, ?_⟩
        rw [upd_same]
        rfl
    rintro J ⟨sJ, hD⟩
    refine ⟨D, [decide (g.lo = e.lo ∨ g.hi = e.lo), decide (g.lo = e.hi ∨ g.hi = e.hi)], rfl, SqL.of hD, ?_⟩
    have m : ([decide (g.lo = e.lo ∨ g.hi = e.lo), decide (g.lo = e.hi ∨ g.hi = e.hi)] : List Bool).any id = meetT (tri e) (tri g) := by
      unfold meetT tri
      simp
    rw [m]
    exact q J sJ
theorem ok_lpairs {f fM : Addr} {fd fdM : FuncData} (F : Fun K "_law_pairs" "_law_pairs" sLPairs f fd) (FM : Fun K "_law_meets" "_law_meets" sMeets fM fdM) (bM : Binds K fdM ["_law_raw_here", "_law_first", "_law_last"] []) (gM : mg "_law_meets" = some (.ref fM))
    (mn : mg "any" = none) (ms' : mg "sorted" = none) (mr : mg "range" = none) (ml : mg "len" = none) : FnOk P w K mg base CX0 2 f fd ["_law_raw_here"] spLPairs := by
  have GM : FnOk P w K mg base CX0 1 fM fdM ["_law_raw_here", "_law_first", "_law_last"] spMeets := ok_meets FM mn
  refine F.ok scLPairs (fun vs H Q E h => ?_) (fun cdv A outer s H vs Q E hr h => ?_)
  · obtain ⟨t, ms, es, rfl, _⟩ := h
    rfl
  · obtain ⟨t, ms, es, rfl, raw, q⟩ := h
    obtain ⟨dm, de, ht, hm, hd, mok, ⟨nd, few, name, pair⟩, less⟩ := id raw
    have hn : (es.map fun e => txt [e.letter]).length < 64 := by rw [List.length_map]; exact few
    refine ⟨_, pss_cons (ps_asg (pe_tup (pa_cons (pe_callB (call_sortedD rfl) (by rfl) ms' (by decide +kernel) (pa_cons (pe_ix ix_tup (pv 0) pe_int (fun _ _ => rfl)) pa_nil)) (pa_cons (pe_lst pa_nil) pa_nil))) (pg_tup rfl (pgs_cons (pg_name (i := 1) scLPairs.nd rfl (.inr rfl)) (pgs_cons (pg_name (i := 2) scLPairs.nd rfl (.inl rfl)) pgs_nil))))
      (pss_cons (ps_for PassesOwn.never rfl (pi_range1 (by rfl) mr (pa_cons (pe_callB call_len_seq (by rfl) ml PySem.boot_len (pa_cons (pv 1) pa_nil)) pa_nil)) (pg_name (i := 3) scLPairs.nd rfl (.inr rfl))
        (pss_one (ps_set (i := 2) scLPairs.nd rfl (.inl rfl) (pe_op op_cat (pv 2) (pe_lc (own := [("_law_last", 4)]) (g := gName 4) rfl scLPairs.nd (pi_list (pe_slice sl_list (pv 1) (po_some (pe_op op_add (pv 3) pe_int)) po_none))
          (blkOk_by (own := [("_law_last", 4)]) (N := ["_law_raw_here", "_law_letters_here", "_law_found", "_law_at", "_law_last"]) (sc := defScope sLPairs) (by decide +kernel)) (fun _ _ _ _ _ => pg_name (i := 4) scLPairs.nd rfl (Or.inl rfl))
          (fun _ _ _ _ _ => pts_one (pt_not (pt_val (pe_call GM hr (by rfl) gM FM.kp bM .nil pass0 (pa_cons (pv 0) (pa_cons (pe_ix (show IxR _ (rIxL K) from ix_list) (pv 1) (pv 3) (fun _ _ => rfl)) (pa_cons (pv 4) pa_nil)))))))
          (fun _ _ _ _ _ => pe_op op_add_str (pe_ix (show IxR _ (rIxL K) from ix_list) (pv 1) (pv 3) (fun _ _ => rfl)) (pv 4)))))))
      (pss_one (ps_ret (pv 2)))), ?_⟩
    refine ⟨_, rfl, t, _, 1, .ref de, rfl, rfl, .inl (.inl ht), rfl, de, _, _, rfl, .inl hd, keysE es, hn, fun ys L py ry nL => ?_⟩
    obtain ⟨es1, p1, rfl, rise⟩ := in_order py ry nd
    have s1 : Same H (upd H L (.lst ((es1.map fun e => txt [e.letter]).map V.str))) := same_upd nL
    have hL : (upd H L (.lst ((es1.map fun e => txt [e.letter]).map V.str))) L = some (.lst (es1.map fun e => V.str (txt [e.letter]))) := by rw [upd_same, List.map_map]; rfl
    generalize upd H L (.lst ((es1.map fun e => txt [e.letter]).map V.str)) = H1 at s1 hL ⊢
    have few1 : es1.length < 64 := by rw [p1.length_eq]; exact few
    refine ⟨Nat.zero_le _, fun F0 nF0 => ⟨(by show 2 ≤ sizeLine; decide), fun T nT => ?_⟩⟩
    have s2 : Same H1 (upd (upd H1 F0 (.lst [])) T (.tup [.ref L, .ref F0])) := (same_upd nF0).trans (same_upd nT)
    refine ⟨T, _, rfl, SqT.of upd_same, rfl, _, _, rfl, _, _, rfl, rfl, ?_⟩
    refine ⟨_, rfl, L, _, rfl, .inl (SqL.of (s2 _ _ hL)), (es1.length : Int), by rw [List.length_map], by omega, by omega, ?_⟩
    have item : ∀ {i : Nat} (hi : i < es1.length), (es1.map fun e => V.str (txt [e.letter]))[i]? = some (.str (txt [es1[i].letter])) := fun hi => by rw [List.getElem?_map, List.getElem?_eq_getElem hi]; rfl
    have lent : (es1.map tri).length = es1.length := List.length_map ..
    refine for_range (lo := 0) (n := es1.length) (fun i σ H' => ∃ (fn : Addr) (y3 : Option V) (acc : List (List Nat)), σ = [some (.ref t), some (.ref L), some (.ref fn), y3, none] ∧ Same H1 H' ∧ H' fn = some (.lst (acc.map tw)) ∧ H fn = none ∧ acc ++ pairsT ((es1.map tri).drop i) = pairsT (es1.map tri))
      ⟨F0, none, [], rfl, s2, (same_upd nT) _ _ upd_same, s1.free nF0, rfl⟩ ?_ ?_
    · rintro i σ H2 hi ⟨fn, y3, acc, rfl, s3, hfn, ffn, inv⟩
      have hit : i < (es1.map tri).length := by rw [lent]; exact hi
      have dr : (es1.map tri).drop i = tri es1[i] :: (es1.map tri).drop (i + 1) := by rw [List.drop_eq_getElem_cons hit, List.getElem_map]
      have lenacc : acc.length ≤ 4096 := by
        have := pairs_len (es1.map tri)
        rw [← inv, List.length_append, lent] at this
        have h4 : es1.length * es1.length ≤ 64 * 64 := Nat.mul_le_mul (by omega) (by omega)
        omega
      refine ⟨_, rfl, _, rfl, _, rfl, _, _, rfl, rfl, _, rfl, L, _, rfl, SqL.of (s3 _ _ hL), fun S nS => ?_⟩
      have ei : ((0 : Int) + (i : Int) + 1) = (((i + 1 : Nat)) : Int) := by omega
      have cutE : cutV (es1.map fun e => V.str (txt [e.letter])) (some ((0 : Int) + (i : Int) + 1)) none = (es1.drop (i + 1)).map fun e => V.str (txt [e.letter]) := by
        rw [ei, cutV_drop, List.map_drop]
      dsimp only
      rw [cutE]
      have s4 : Same H2 (upd H2 S (.lst ((es1.drop (i + 1)).map fun e => V.str (txt [e.letter])))) := same_upd nS
      have hS : (upd H2 S (.lst ((es1.drop (i + 1)).map fun e => V.str (txt [e.letter])))) S = some (.lst ((es1.drop (i + 1)).map fun e => V.str (txt [e.letter]))) := upd_same
      generalize upd H2 S (.lst ((es1.drop (i + 1)).map fun e => V.str (txt [e.letter]))) = H3 at s4 hS ⊢
      refine ⟨S, rfl, ⟨_, SqL.of hS⟩, fun D nD => ?_⟩
      have S13 := s3.trans s4
      have S03 := s1.trans S13
      refine lc_list (K := K) (a := S) (xs := (es1.drop (i + 1)).map fun e => V.str (txt [e.letter])) (fun j J => Same H3 J ∧ J D = some (.lst ((((((es1.map tri).drop (i + 1)).take j).filter fun b => !meetT (tri es1[i]) b).map fun b => [(tri es1[i]).1, b.1]).map tw))) ⟨same_upd nD, upd_same⟩ (fun j J _ hv => SqL.of (hv.1 _ _ hS)) ?_ ?_
      · rintro j v J hv ⟨sJ, hD⟩
        have hj : j < (es1.drop (i + 1)).length := by
          have := (List.getElem?_eq_some_iff.mp hv).1
          rwa [List.length_map] at this
        rw [List.getElem?_map, List.getElem?_eq_getElem hj] at hv
        have ev : v = .str (txt [(es1.drop (i + 1))[j].letter]) := (Option.some.inj hv).symm
        subst ev
        have memj : (es1.drop (i + 1))[j] ∈ es := p1.mem_iff.mp (List.mem_of_mem_drop (List.getElem_mem hj))
        have memi : es1[i] ∈ es := p1.mem_iff.mp (List.getElem_mem hi)
        have hjt : j < ((es1.map tri).drop (i + 1)).length := by rw [← List.map_drop, List.length_map]; exact hj
        have ej : ((es1.map tri).drop (i + 1))[j] = tri (es1.drop (i + 1))[j] := by
          have e : (es1.map tri).drop (i + 1) = (es1.drop (i + 1)).map tri := List.map_drop.symm
          have h2 : ((es1.map tri).drop (i + 1))[j]? = some (tri (es1.drop (i + 1))[j]) := by rw [e, List.getElem?_map, List.getElem?_eq_getElem hj]; rfl
          exact (List.getElem?_eq_some_iff.mp h2).2
        have tk : ((es1.map tri).drop (i + 1)).take (j + 1) = ((es1.map tri).drop (i + 1)).take j ++ [tri (es1.drop (i + 1))[j]] := by rw [List.take_succ_eq_append_getElem hjt, ej]
        clear hv ej
        generalize (es1.drop (i + 1))[j] = bb at memj tk ⊢
        have ix0 : atI (es1.map fun e => V.str (txt [e.letter])) ((0 : Int) + (i : Int)) = some (.str (txt [es1[i].letter])) := by
          rw [Int.zero_add]
          exact atI_nat (item hi)
        refine ⟨rfl, ?_⟩
        refine ⟨_, rfl, _, rfl, _, rfl, L, _, _, _, rfl, rfl, SqL.of (sJ _ _ (S13 _ _ hL)), ix0, _, rfl, t, es1[i], bb, ms, es, rfl, raw.same (S03.trans sJ), memi, memj, fun J2 sJ2 => ⟨_, rfl, ?_⟩⟩
        rw [tk]
        cases m : meetT (tri es1[i]) (tri bb) with
        | true =>
          refine iteF ⟨sJ.trans sJ2, ?_⟩
          rw [sJ2 _ _ hD, List.filter_append]
          simp [m]
        | false =>
          refine iteT ⟨_, rfl, _, rfl, L, _, _, _, rfl, rfl, SqL.of (sJ2 _ _ (sJ _ _ (S13 _ _ hL))), ix0, _, rfl, _, _, rfl, rfl, (by show 1 + 1 ≤ sizeLine; decide), _, sJ2 _ _ hD, ?_, same_put (sJ.trans sJ2) nD, ?_⟩
          · rw [List.length_map, List.length_map]
            refine Nat.lt_of_le_of_lt (List.length_filter_le _ _) ?_
            rw [List.length_take, List.length_drop, lent]
            exact small1000 (by omega)
          · have e2 : V.str (txt [es1[i].letter] ++ txt [bb.letter]) = tw [es1[i].letter, bb.letter] := congrArg V.str (txt_app _ _)
            rw [upd_same, e2, List.filter_append]
            simp only [List.filter_cons, List.filter_nil, m, Bool.not_false, if_true, List.map_append, List.map_cons, List.map_nil]
            rfl
      rintro H4 ⟨s5, hD⟩
      rw [List.length_map] at hD
      have full : ((es1.map tri).drop (i + 1)).take (es1.drop (i + 1)).length = (es1.map tri).drop (i + 1) := by
        rw [List.take_of_length_le]
        rw [← List.map_drop, List.length_map]
        exact Nat.le_refl _
      rw [full] at hD
      refine ⟨fn, D, _, _, rfl, rfl, (s4.trans s5) _ _ hfn, hD, ?_, fun o no => ?_⟩
      · rw [List.length_map, List.length_map, List.length_map]
        have h1 := List.length_filter_le (fun b => !meetT (tri es1[i]) b) ((es1.map tri).drop (i + 1))
        rw [List.length_drop, lent] at h1
        have h2 : acc.length + (List.filter (fun b => !meetT (tri es1[i]) b) ((es1.map tri).drop (i + 1))).length ≤ 5000 := by omega
        exact Nat.le_trans h2 (by decide)
      · refine ⟨o, _, acc ++ _, rfl, (S13.trans s5).trans (same_upd no), by rw [upd_same, List.map_append], (S03.trans s5).free no, ?_⟩
        rw [← inv, dr, List.append_assoc]
        rfl
    · rintro σ H2 ⟨fn, y3, acc, rfl, s3, hfn, ffn, inv⟩
      have e0 : (es1.map tri).drop es1.length = [] := List.drop_of_length_le (by rw [lent]; exact Nat.le_refl _)
      rw [e0] at inv
      have ea : acc = pairsT (es1.map tri) := by rw [← inv]; exact (List.append_nil _).symm
      subst ea
      refine ⟨_, rfl, q H2 fn (es1.map tri) (s1.trans s3) ffn (p1.map tri) ?_ hfn⟩
      rw [List.map_map]
      exact rise
theorem ok_some {f fP fH fR : Addr} {fd fdP fdH fdR : FuncData} (F : Fun K "_law_some" "_law_some" sSome f fd)
    (GP : FnOk P w K mg base CX0 1 fP fdP ["_law_bag_here", "_law_many"] spPull) (FP : Fun K "_law_pull" "_law_pull" sPull fP fdP) (bP : Binds K fdP ["_law_bag_here", "_law_many"] []) (gP : mg "_law_pull" = some (.ref fP))
    (GH : FnOk P w K mg base CX0 4 fH fdH ["_law_bag_here"] spHard) (FH : Fun K "_law_hard" "_law_hard" sHard fH fdH) (bH : Binds K fdH ["_law_bag_here"] []) (gH : mg "_law_hard" = some (.ref fH))
    (GR : FnOk P w K mg base CX0 3 fR fdR ["_law_bag_here", "_law_wide", "_law_many"] spRaw) (FR : Fun K "_law_raw" "_law_raw" sRaw fR fdR) (bR : Binds K fdR ["_law_bag_here", "_law_wide", "_law_many"] []) (gR : mg "_law_raw" = some (.ref fR)) :
    FnOk P w K mg base CX0 5 f fd ["_law_bag_here"] spHard := by
  refine F.ok scSome (fun vs H Q E h => ?_) (fun cdv A outer s H vs Q E hr h => ?_)
  · obtain ⟨b, l, rfl, _⟩ := h
    rfl
  · obtain ⟨b, l, rfl, B, q⟩ := h
    have hr3 : Room 3 _ := hr.mono (by decide)
    have hr1 : Room 1 _ := hr.mono (by decide)
    refine ⟨_, pss_one (ps_ret (pe_ifExp (pt_cmpR op_eq (pe_call GP hr1 (by rfl) gP FP.kp bP .nil pass0 (pa_cons (pv 0) (pa_cons pe_int pa_nil))) pe_int (nomark _)) (pe_call GH hr (by rfl) gH FH.kp bH .nil pass0 (pa_cons (pv 0) pa_nil)) (pe_call GR hr3 (by rfl) gR FR.kp bR .nil pass0 (pa_cons (pv 0) (pa_cons pe_int (pa_cons pe_int pa_nil)))))), ?_⟩
    refine ⟨_, rfl, b, l, 3, rfl, B, by decide, by decide, fun H1 d k1 B1 d0 d1 => ⟨rfl, _, rfl, ?_⟩⟩
    cases hd : decide (V.int d = V.int 0) with
    | true => exact iteT ⟨_, rfl, b, l, rfl, B1, fun H2 t ms es k2 B2 raw => q H2 t ms es (k1.trans k2) B2 raw⟩
    | false => exact iteF ⟨_, rfl, b, l, 6, 9, rfl, B1, by decide, by decide, by decide, by decide, fun H2 t ms es k2 B2 raw => q H2 t ms es (k1.trans k2) B2 raw.gen⟩
end


end T06

/-! zip while its tuple is out -/
namespace Tm
open PySem PySem.Spec PyProof.Rows L2
section
variable {prog : Program} {w : World} {A : Around} {E : Value → Shared → Prop} {s : Shared} {z TI TO T i1 i2 : Addr} {f : Bool} {oT : Obj} {fp1 fp2 : List Addr} {n1 n2 i : Nat} {P1 P2 : Nat → Value → Prop} {St1 St2 : Nat → Heap → Prop}
set_option maxHeartbeats 2000000 in
theorem held_item {Q : Value → Shared → Prop} (S : ZipSep2 z TI TO i1 i2 fp1 fp2) (D1 : Draws prog w A i1 fp1 n1 P1 St1) (D2 : Draws prog w A i2 fp2 n2 P2 St2)
    (hz : IsZipHeld s.heap z TI TO T f) (hT : s.heap.get? T = some oT) (hTI : IsTupOf2 s.heap TI (.ref i1) (.ref i2)) (st1 : St1 i s.heap) (st2 : St2 i s.heap) (lt1 : i < n1) (lt2 : i < n2)
    (hand : ∀ x y h' tk, P1 i x → P2 i y → IsZipHeld h' z TI TO T true → St1 (i + 1) h' → St2 (i + 1) h' → h'.IsTuple s.heap.objs.size #[x, y] →
      (∀ c o, c ≠ z → c ≠ i1 → c ≠ i2 → s.heap.get? c = some o → h'.get? c = some o) → Q (.ref s.heap.objs.size) { s with heap := h', toks := tk }) :
    wpAny (model prog w) A (Builtin.«zip.__next__» ⟨[.ref z], []⟩) (fun fin s' => ∃ v, fin = .done (.ret v) ∧ Q v s') E s := by
  have free : ∀ {B : Around} {E : Value → Shared → Prop} {R : Bool → Shared → Prop}, (∀ h', IsZipHeld h' z TI TO T true → Heap.SameBut z s.heap h' → R false { s with heap := h' }) → wpAny (model prog w) B (Builtin.SmallTypes.ownedTupleIsFree (.ref z)) R E s := by
    intro B E R q
    exact wpAny_tupleHeld_zip hz hT q
  wp_walk using free
  intro h1 hz1 same1
  rw [if_neg Bool.false_ne_true]
  simp only [List.forIn_toArray, List.forIn_cons, List.forIn_nil]
  have frame1 : St1 i h1 := D1.frame _ _ _ st1 fun b hb o e => same1.extBut b o (fun q => S.zf1 (q ▸ hb)) e
  apply wpAny_bind
  apply wpAny_bind
  apply wpAny_bind
  apply wpAny_holding
  show wpAny _ _ (Builtin.SmallTypes.nextOf (.ref i1) >>= fun x => pure (some x)) _ _ _
  apply wpAny_bind
  apply D1.item i _ _ _ lt1 frame1
  intro x h2 tk2 px st1' same2
  apply wpAny_pure
  apply wpAny_pure
  have frame2 : St2 i h2 := D2.frame _ _ _ st2 fun b hb o e => same2.extBut b o (fun q => S.sep1_2 (q ▸ hb)) (same1.extBut b o (fun q => S.zf2 (q ▸ hb)) e)
  apply wpAny_bind
  apply wpAny_bind
  apply wpAny_holding
  show wpAny _ _ (Builtin.SmallTypes.nextOf (.ref i2) >>= fun x => pure (some x)) _ _ _
  apply wpAny_bind
  apply D2.item i _ _ _ lt2 frame2
  intro y h3 tk3 py st2' same3
  apply wpAny_pure
  apply wpAny_pure
  apply wpAny_pure
  have frame3 : St1 (i + 1) h3 := D1.frame _ _ _ st1' fun b hb o e => same3.extBut b o (fun q => S.sep2_1 (q ▸ hb)) e
  have size : h3.objs.size = s.heap.objs.size := by rw [same3.1, same2.1, same1.1]
  show wpAny _ _ (newTuple [x, y] >>= fun v => ret v) _ _ _
  apply wpAny_bind
  apply wpAny_newTuple _ (by show 2 ≤ sizeLine; decide)
  apply wpAny_pure
  refine ⟨_, rfl, ?_⟩
  show Q (.ref h3.objs.size) _
  rw [size]
  have later : ∀ c o, h3.get? c = some o → (h3.push { cls := .type "tuple", data := .seq #[x, y] }).get? c = some o := fun c o e => Heap.get?_push_of_some _ e
  apply hand x y _ tk3 px py
  · exact later _ _ (same3.extBut _ _ S.zi2 (same2.extBut _ _ S.zi1 hz1))
  · exact D1.frame _ _ _ frame3 fun b _ o e => later b o e
  · exact D2.frame _ _ _ st2' fun b _ o e => later b o e
  · exact ⟨_, size ▸ Heap.get?_push_size h3 rfl, rfl, _, rfl⟩
  · intro c o nz n1 n2 e
    exact later _ _ (same3.extBut _ _ n2 (same2.extBut _ _ n1 (same1.extBut _ _ nz e)))
set_option maxHeartbeats 2000000 in
theorem held_end {Q : Fin → Shared → Prop} (S : ZipSep2 z TI TO i1 i2 fp1 fp2) (D1 : Draws prog w A i1 fp1 n1 P1 St1) (D2 : Draws prog w A i2 fp2 n2 P2 St2)
    (hz : IsZipHeld s.heap z TI TO T f) (hT : s.heap.get? T = some oT) (hTI : IsTupOf2 s.heap TI (.ref i1) (.ref i2)) (st1 : St1 i s.heap) (st2 : St2 i s.heap) (lt1 : i < n1) (e2 : i = n2)
    (hand : ∀ h' tk e, (∀ c o, c ≠ z → c ≠ i1 → c ≠ i2 → s.heap.get? c = some o → h'.get? c = some o) → (∃ o, h'.get? e = some o ∧ o.cls = .type "StopIteration") → E (.ref e) { s with heap := h', toks := tk }) :
    wpAny (model prog w) A (Builtin.«zip.__next__» ⟨[.ref z], []⟩) Q E s := by
  have free : ∀ {B : Around} {E : Value → Shared → Prop} {R : Bool → Shared → Prop}, (∀ h', IsZipHeld h' z TI TO T true → Heap.SameBut z s.heap h' → R false { s with heap := h' }) → wpAny (model prog w) B (Builtin.SmallTypes.ownedTupleIsFree (.ref z)) R E s := by
    intro B E R q
    exact wpAny_tupleHeld_zip hz hT q
  wp_walk using free
  intro h1 hz1 same1
  rw [if_neg Bool.false_ne_true]
  simp only [List.forIn_toArray, List.forIn_cons, List.forIn_nil]
  have frame1 : St1 i h1 := D1.frame _ _ _ st1 fun b hb o e => same1.extBut b o (fun q => S.zf1 (q ▸ hb)) e
  apply wpAny_bind
  apply wpAny_bind
  apply wpAny_bind
  apply wpAny_holding
  show wpAny _ _ (Builtin.SmallTypes.nextOf (.ref i1) >>= fun x => pure (some x)) _ _ _
  apply wpAny_bind
  apply D1.item i _ _ _ lt1 frame1
  intro x h2 tk2 px st1' same2
  apply wpAny_pure
  apply wpAny_pure
  have frame2 : St2 i h2 := D2.frame _ _ _ st2 fun b hb o e => same2.extBut b o (fun q => S.sep1_2 (q ▸ hb)) (same1.extBut b o (fun q => S.zf2 (q ▸ hb)) e)
  subst e2
  apply wpAny_bind
  apply wpAny_bind
  apply wpAny_holding
  show wpAny _ _ (Builtin.SmallTypes.nextOf (.ref i2) >>= fun x => pure (some x)) _ _ _
  apply wpAny_bind
  apply D2.done _ _ _ frame2
  intro h3 e same3 stop
  apply hand h3 tk2 e _ stop
  intro c o nz n1 n2 at_
  exact same3 _ _ n2 (same2.extBut _ _ n1 (same1.extBut _ _ nz at_))
/-- next(z) while the tuple is out -/
theorem next_held {Q : Option Value → Shared → Prop} (S : ZipSep2 z TI TO i1 i2 fp1 fp2) (D1 : Draws prog w A.in1 i1 fp1 n1 P1 St1) (D2 : Draws prog w A.in1 i2 fp2 n2 P2 St2)
    (hz : IsZipHeld s.heap z TI TO T f) (hT : s.heap.get? T = some oT) (hTI : IsTupOf2 s.heap TI (.ref i1) (.ref i2)) (st1 : St1 i s.heap) (st2 : St2 i s.heap) (lt1 : i < n1) (lt2 : i < n2)
    (hand : ∀ x y h' tk, P1 i x → P2 i y → IsZipHeld h' z TI TO T true → St1 (i + 1) h' → St2 (i + 1) h' → h'.IsTuple s.heap.objs.size #[x, y] →
      (∀ c o, c ≠ z → c ≠ i1 → c ≠ i2 → s.heap.get? c = some o → h'.get? c = some o) → Q (some (.ref s.heap.objs.size)) { s with heap := h', toks := tk }) :
    wpAny (model prog w) A (pyNext (.ref z)) Q E s := by
  have kind : s.TypeIs (.ref z) "zip" := ⟨_, hz, rfl⟩
  unfold pyNext
  apply wpAny_bind
  apply wpAny_attempt
  apply wpAny_callSpecial?_slot (name := Str.ofString "__next__") kind F.slot_zip_next
  apply wpAny_call_entry F.slot_zip_next kind F.entry_zip_next _ (F.args_zip_next_1 _)
  apply held_item S D1 D2 hz hT hTI st1 st2 lt1 lt2
  intro x y h' tk px py z' s1' s2' tup kept
  apply wpAny_pure
  exact hand x y h' tk px py z' s1' s2' tup kept
theorem stop_held {Q : Option Value → Shared → Prop} (S : ZipSep2 z TI TO i1 i2 fp1 fp2) (D1 : Draws prog w A.in1 i1 fp1 n1 P1 St1) (D2 : Draws prog w A.in1 i2 fp2 n2 P2 St2)
    (hz : IsZipHeld s.heap z TI TO T f) (hT : s.heap.get? T = some oT) (hTI : IsTupOf2 s.heap TI (.ref i1) (.ref i2)) (st1 : St1 i s.heap) (st2 : St2 i s.heap) (lt1 : i < n1) (e2 : i = n2)
    (hand : ∀ h' tk, (∀ c o, c ≠ z → c ≠ i1 → c ≠ i2 → s.heap.get? c = some o → h'.get? c = some o) → Q none { s with heap := h', toks := tk }) :
    wpAny (model prog w) A (pyNext (.ref z)) Q E s := by
  have kind : s.TypeIs (.ref z) "zip" := ⟨_, hz, rfl⟩
  unfold pyNext
  apply wpAny_bind
  apply wpAny_attempt
  apply wpAny_callSpecial?_slot (name := Str.ofString "__next__") kind F.slot_zip_next
  apply wpAny_call_entry F.slot_zip_next kind F.entry_zip_next _ (F.args_zip_next_1 _)
  apply held_end S D1 D2 hz hT hTI st1 st2 lt1 e2
  rintro h' tk e kept ⟨o, at_, cls⟩
  apply wpAny_bind
  have ended : ({ s with heap := h', toks := tk } : Shared).TypeIs (.ref e) "StopIteration" := ⟨o, at_, cls⟩
  apply wpAny_isInstance (b := true) ended isSubtype_stop
  rw [if_pos rfl]
  exact wpAny_pure (hand h' tk kept)
/-- how a zip stands while a dict is filled from it -/
def zipStands (z TI TO i1 i2 d : Addr) (St1 St2 : Nat → Heap → Prop) (i : Nat) (h : Heap) : Prop :=
  IsTupOf2 h TI (.ref i1) (.ref i2) ∧ St1 i h ∧ St2 i h ∧ ((IsZip h z TI TO .none ∧ ∃ a b, IsTupOf2 h TO a b) ∨ ∃ T f oT, IsZipHeld h z TI TO T f ∧ h.get? T = some oT ∧ T ≠ d ∧ T ≠ z ∧ T ≠ i1 ∧ T ≠ i2)
theorem zip_source {d : Addr} (S : ZipSep2 z TI TO i1 i2 fp1 fp2) (D1 : Draws prog w A.in1 i1 fp1 n1 P1 St1) (D2 : Draws prog w A.in1 i2 fp2 n2 P2 St2) (shorter : n2 < n1) (off : d ∉ z :: TI :: TO :: (fp1 ++ fp2)) :
    PairSrc prog w A z d [z, TO, i1, i2] n2 (fun i k v => P1 i k ∧ P2 i v) (zipStands z TI TO i1 i2 d St1 St2) where
  off := by
    simp only [List.mem_cons, List.mem_append, not_or] at off
    obtain ⟨o1, o2, o3, o4, o5⟩ := off
    simp only [List.mem_cons, List.not_mem_nil, or_false, not_or]
    exact ⟨o1, o3, fun e => o4 (e ▸ S.mem1), fun e => o5 (e ▸ S.mem2)⟩
  frame := by
    simp only [List.mem_cons, List.mem_append, not_or] at off
    obtain ⟨o1, o2, o3, o4, o5⟩ := off
    rintro i h h' ⟨ti, s1, s2, out⟩ same
    refine ⟨same _ _ (fun e => o2 e.symm) ti, D1.frame _ _ _ s1 fun b hb o e => same b o (fun q => o4 (q ▸ hb)) e, D2.frame _ _ _ s2 fun b hb o e => same b o (fun q => o5 (q ▸ hb)) e, ?_⟩
    rcases out with ⟨hz, a, b, to⟩ | ⟨T, f, oT, hz, ht, nd, rest⟩
    · exact .inl ⟨same _ _ (fun e => o1 e.symm) hz, a, b, same _ _ (fun e => o3 e.symm) to⟩
    · exact .inr ⟨T, f, oT, same _ _ (fun e => o1 e.symm) hz, same _ _ nd ht, nd, rest⟩
  item := by
    rintro i s Q E lt ⟨ti, s1, s2, out⟩ low hand
    have fresh : ∀ {b : Addr}, b < s.heap.objs.size → s.heap.objs.size ≠ b := fun l => Nat.ne_of_gt l
    obtain ⟨q1, l1⟩ := D1.live _ _ s1
    obtain ⟨q2, l2⟩ := D2.live _ _ s2
    have m1 := Heap.lt_size l1
    have m2 := Heap.lt_size l2
    rcases out with ⟨hz, a, b, to⟩ | ⟨T, f, oT, hz, ht, nd, nz, e1, e2⟩
    · have mz := Heap.lt_size hz
      apply wpAny_pyNext_zipD2_item S D1 D2 hz ti to s1 s2 (Nat.lt_trans lt shorter) lt
      intro x y h' tk px py hz' to' s1' s2' new size kept
      apply hand _ x y h' tk ⟨px, py⟩ (.inl ⟨_, new, rfl, _, rfl⟩)
      · refine ⟨kept _ _ S.TIz S.TITO S.TIi1 S.TIi2 ti, s1', s2', .inr ⟨_, false, _, hz', new, fresh low, fresh mz, fresh m1, fresh m2⟩⟩
      · intro c o nw at_
        simp only [List.mem_cons, List.not_mem_nil, or_false, not_or] at nw
        exact kept c o nw.1 nw.2.1 nw.2.2.1 nw.2.2.2 at_
    · have mz := Heap.lt_size hz
      apply next_held S D1 D2 hz ht ti s1 s2 (Nat.lt_trans lt shorter) lt
      intro x y h' tk px py hz' s1' s2' new kept
      apply hand _ x y h' tk ⟨px, py⟩ (.inl new)
      · refine ⟨kept _ _ S.TIz S.TIi1 S.TIi2 ti, s1', s2', .inr ⟨T, true, oT, hz', kept _ _ nz e1 e2 ht, nd, nz, e1, e2⟩⟩
      · intro c o nw at_
        simp only [List.mem_cons, List.not_mem_nil, or_false, not_or] at nw
        exact kept c o nw.1 nw.2.2.1 nw.2.2.2 at_
  done := by
    rintro s Q E ⟨ti, s1, s2, out⟩ hand
    rcases out with ⟨hz, a, b, to⟩ | ⟨T, f, oT, hz, ht, nd, nz, e1, e2⟩
    · apply wpAny_pyNext_zipD2_end S D1 D2 hz ti to s1 s2 (Nat.le_of_lt shorter) (Nat.le_refl _) (.inr rfl)
      intro h' tk kept
      apply hand h' tk
      intro c o nw at_
      simp only [List.mem_cons, List.not_mem_nil, or_false, not_or] at nw
      exact kept c o nw.1 nw.2.1 nw.2.2.1 nw.2.2.2 at_
    · apply stop_held S D1 D2 hz ht ti s1 s2 shorter rfl
      intro h' tk kept
      apply hand h' tk
      intro c o nw at_
      simp only [List.mem_cons, List.not_mem_nil, or_false, not_or] at nw
      exact kept c o nw.1 nw.2.2.1 nw.2.2.2 at_
/-- zip of what draws, the second one shorter, as the argument of dict -/
theorem zip_pairs (S : ZipSep2 z TI TO i1 i2 fp1 fp2) (D1 : ∀ A : Around, A.handled = none → Draws prog w A i1 fp1 n1 P1 St1) (D2 : ∀ A : Around, A.handled = none → Draws prog w A i2 fp2 n2 P2 St2) (shorter : n2 < n1)
    (live1 : ∀ h, St1 0 h → ∀ b ∈ fp1, ∃ o, h.get? b = some o) (live2 : ∀ h, St2 0 h → ∀ b ∈ fp2, ∃ o, h.get? b = some o) (calm : Around) (quiet : calm.handled = none) :
    PairArg prog w "zip" z (z :: TI :: TO :: (fp1 ++ fp2)) [z, TO, i1, i2] n2 (fun i k v => P1 i k ∧ P2 i v)
      (fun h => IsZip h z TI TO .none ∧ IsTupOf2 h TI (.ref i1) (.ref i2) ∧ (∃ a b, IsTupOf2 h TO a b) ∧ St1 0 h ∧ St2 0 h) where
  type := fun s ok => ⟨_, ok.1, rfl⟩
  notDict := by decide
  keep := by
    rintro h h' ⟨hz, ti, ⟨a, b, to⟩, s1, s2⟩ same
    exact ⟨same _ _ hz, same _ _ ti, ⟨a, b, same _ _ to⟩, (D1 calm quiet).frame _ _ _ s1 fun b _ o e => same b o e, (D2 calm quiet).frame _ _ _ s2 fun b _ o e => same b o e⟩
  there := by
    rintro h ⟨hz, ti, ⟨a, b, to⟩, s1, s2⟩ c hc
    rcases List.mem_cons.mp hc with rfl | hc
    · exact ⟨_, hz⟩
    rcases List.mem_cons.mp hc with rfl | hc
    · exact ⟨_, ti⟩
    rcases List.mem_cons.mp hc with rfl | hc
    · exact ⟨_, to⟩
    rcases List.mem_append.mp hc with hc | hc
    · exact live1 h s1 c hc
    · exact live2 h s2 c hc
  sub := by
    intro c hc
    simp only [List.mem_cons, List.not_mem_nil, or_false] at hc
    rcases hc with rfl | rfl | rfl | rfl
    · simp
    · simp
    · exact List.mem_cons_of_mem _ (List.mem_cons_of_mem _ (List.mem_cons_of_mem _ (List.mem_append_left _ S.mem1)))
    · exact List.mem_cons_of_mem _ (List.mem_cons_of_mem _ (List.mem_cons_of_mem _ (List.mem_append_right _ S.mem2)))
  noKeys := by
    rintro B s Q E hB ⟨hz, _⟩ hand
    exact getAttrOr_miss_zip hz rfl rfl rfl zip_no_keys (by decide +kernel) hB hand
  iter := by
    rintro B s d Q E hB ⟨hz, ti, to, s1, s2⟩ low off hand
    apply wpAny_pyIter_zip hz
    exact hand z [z, TO, i1, i2] _ s.heap s.toks (zip_source S (D1 _ hB) (D2 _ hB) shorter off) ⟨ti, s1, s2, .inl ⟨hz, to⟩⟩ (fun _ _ e => e) fun b hb => .inl hb
end
end Tm

/-! dict(zip(text, list)) -/
namespace Tm
open PySem PySem.Spec PyProof.Rows L2
/-- each value under the sign of its place -/
def lettered (cs : List Nat) (ys : List V) : List (Key × V) := (cs.zip ys).map fun q => (Sum.inr (⟨#[q.1]⟩ : Str), q.2)
def letteredU (cs : List Nat) (us : List Value) : List (Key × Value) := (cs.zip us).map fun q => (Sum.inr (⟨#[q.1]⟩ : Str), q.2)
def tDictZip (K : PySem.W.Frag) (ta : TA) : TE := fun σ H Q => ta σ H fun vs H1 => ∃ (cs : List Nat) (l : Addr) (ys : List V), vs = [.str (txt cs), .ref l] ∧ SqL K H1 l ys ∧ ys.length < cs.length ∧ cs.length ≤ 1000 ∧ cs.Nodup ∧ ∀ p, H1 p = none → Q (.ref p) (upd H1 p (.dK (lettered cs ys)))
theorem lettered_rel {ys : List V} {us : List Value} (vals : Vals ys us) : ∀ cs : List Nat, KV (lettered cs ys) (letteredU cs us) := by
  induction vals with
  | nil => intro cs; cases cs <;> exact .nil
  | cons head tail ih =>
    intro cs
    cases cs with
    | nil => exact .nil
    | cons c cs => exact .cons ⟨rfl, head⟩ (ih cs)
theorem lettered_nodup (us : List Value) : ∀ {cs : List Nat}, cs.Nodup → ((letteredU cs us).map (·.1)).Nodup := by
  induction us with
  | nil => intro cs _; cases cs <;> exact List.nodup_nil
  | cons u us ih =>
    intro cs nd
    cases cs with
    | nil => exact List.nodup_nil
    | cons c cs =>
      obtain ⟨out, nd'⟩ := List.nodup_cons.mp nd
      refine List.nodup_cons.mpr ⟨?_, ih nd'⟩
      intro m
      obtain ⟨q, hq, e⟩ := List.mem_map.mp m
      obtain ⟨r, hr, rfl⟩ := List.mem_map.mp hq
      have same : r.1 = c := by
        have e1 : (Sum.inr (⟨#[r.1]⟩ : Str) : Key) = Sum.inr ⟨#[c]⟩ := e
        injection e1 with e2
        injection e2 with e3
        injection e3 with e4
        injection e4
      exact out (same ▸ (List.of_mem_zip (show (r.1, r.2) ∈ cs.zip us from hr)).1)
theorem lettered_have {prog : Program} {w : World} (cs : List Nat) (us : List Value) (short : us.length < cs.length) :
    PairsHave (mixKind prog w) us.toArray.size (fun i k v => (∃ c u, (txt cs).cps[i]? = some c ∧ k = .str ⟨#[c]⟩ u) ∧ us.toArray[i]? = some v) (letteredU cs us) := by
  constructor
  · simp only [letteredU, List.length_map, List.length_zip, List.size_toArray]; omega
  · rintro i key v ⟨⟨c, u, hc, rfl⟩, hv⟩
    have e1 : cs[i]? = some c := by
      have e : (txt cs).cps[i]? = cs[i]? := List.getElem?_toArray ..
      rw [← e]; exact hc
    have e2 : us[i]? = some v := by
      have e : us.toArray[i]? = us[i]? := List.getElem?_toArray ..
      rw [← e]; exact hv
    refine ⟨Sum.inr ⟨#[c]⟩, ?_, ?_⟩
    · have both : (cs.zip us)[i]? = some (c, v) := List.getElem?_zip_eq_some.mpr ⟨e1, e2⟩
      simp only [letteredU, List.getElem?_map, both, Option.map_some]
    · show keyIs (Sum.inr ⟨#[c]⟩) (.str ⟨#[c]⟩ u) = true
      simp [keyIs, Value.isStrOf]
theorem pe_dictzip {X : Cx} {e e2 : Expr} {ta : TA} {p q pos pos2 : Pos} (calm : X.calm = true) (gz : Gl X "zip") (fz : X.mg "zip" = none) (gd : Gl X "dict") (fd : X.mg "dict" = none) (args : PA X [e, e2] ta)
    (first : starEach [e, e2] X.env = (false, eval e X.env) :: starEach [e2] X.env := by rfl) (plain : (backTo pos2 (starEach [e2] X.env)).any (·.1) = false := by rfl)
    (one : starEach [.Call (.Name "zip" q) [e, e2] [] pos2] X.env = (false, eval (.Call (.Name "zip" q) [e, e2] [] pos2) X.env) :: starEach [] X.env := by rfl) :
    PE X (.Call (.Name "dict" p) [.Call (.Name "zip" q) [e, e2] [] pos2] [] pos) (tDictZip X.K ta) where
  run pins s σ H Q inv ask := by
    apply wpAny_Call_Name_kw
    apply ld_blt inv gd fd boot_dict
    apply PyProof.Rows.callWith_type1 _ one rfl
    rw [one]
    show wpAny _ _ (spliced ((false, eval _ X.env) :: backTo pos (starEach [] X.env))) _ _ s
    apply Calls.spliced_cons
    apply wpAny_Call_Name_kw
    apply ld_blt inv gz fz PyProof.Rows.boot_zip
    apply PyProof.Rows.callWith_type1 _ first plain
    apply wpAny_mono (args.run pos2 pins s σ H _ inv ask) _ (fun _ _ raised => raised)
    rintro held s1 ⟨given, H1, inv1, rel, cs, l, ys, rfl, sq, short, few, nodup, hand⟩
    match held, rel with
    | [_, _], .cons ⟨t, rfl⟩ (.cons rfl .nil) =>
      obtain ⟨us, vals, pl, _⟩ := inv1.list sq
      have isl := pl.isList
      obtain ⟨ob, there, _⟩ := id isl
      have low := Heap.lt_size there
      apply zip_begins2 (begins_text _ _) (begins_list l us.toArray) trivial isl
      intro heap hz hi ho g1 g2 size kept
      apply Calls.spliced_nil
      have inv2 : Inv X pins σ H1 { s1 with heap := heap } := inv1.kept (t' := s1.toks) kept
      have num : us.length = ys.length := vals.length.symm
      have ne : l ≠ s1.heap.objs.size + 1 := Nat.ne_of_lt (Nat.lt_succ_of_lt low)
      have S := zip_sep2 (N := s1.heap.objs.size) (fp1 := []) (fp2 := [l]) (fun _ h => by cases h) (fun b h => by rw [List.mem_singleton.mp h]; exact low)
      have quiet : X.A.handled = none := inv1.ok.hd calm
      have P := zip_pairs (prog := X.prog) (w := X.w) S (fun A' h => Draws.text (A := A') h s1.heap.objs.size (txt cs) t) (fun A' h => Draws.list (A := A') h (s1.heap.objs.size + 1) l ne us.toArray)
        (by rw [List.size_toArray]; show us.length < cs.toArray.size; rw [List.size_toArray, num]; exact short)
        (fun h st b hb => by rw [List.mem_singleton.mp hb]; obtain ⟨o, at_, _⟩ := st; exact ⟨o, at_⟩)
        (fun h st b hb => by
          rcases List.mem_cons.mp hb with rfl | hb
          · obtain ⟨⟨o, at_, _⟩, _⟩ := st; exact ⟨o, at_⟩
          · rw [List.mem_singleton.mp hb]; obtain ⟨_, ⟨o, at_, _⟩⟩ := st; exact ⟨o, at_⟩) X.A quiet
      apply call_dict_pairs (knd := mixKind X.prog X.w) (kvs := letteredU cs us) P quiet ⟨hz, hi, ⟨_, _, ho⟩, ⟨_, g1, rfl, rfl⟩, ⟨_, g2, rfl, rfl⟩, isl.at fun o e => kept _ _ e⟩ (lettered_have cs us (by omega))
        (by rw [List.size_toArray]; unfold sizeLine; omega)
      intro h' tk made kept'
      rw [merged_nil_of_nodup _ (lettered_nodup us nodup)] at made
      have cells : ∀ b ∈ [s1.heap.objs.size + 4, s1.heap.objs.size + 3, s1.heap.objs.size, s1.heap.objs.size + 1], FpOk X pins H1 b := by
        intro b hb
        have above : s1.heap.objs.size ≤ b := by
          simp only [List.mem_cons, List.not_mem_nil, or_false] at hb
          have up : ∀ n : Nat, (s1.heap.objs.size : Nat) ≤ s1.heap.objs.size + n := fun n => Nat.le_add_right _ _
          rcases hb with rfl | rfl | rfl | rfl
          · exact up 4
          · exact up 3
          · exact up 0
          · exact up 1
        exact inv1.fpOk above (inv1.hok.fresh above)
      have new : ObjOk X.prog X.w (upd H1 heap.objs.size (.dK (lettered cs ys))) h' heap.objs.size (.dK (lettered cs ys)) := by
        refine ⟨?_, ?_, _, lettered_rel vals cs, made⟩
        · simp only [lettered, List.length_map, List.length_zip]; unfold sizeLine; omega
        · exact beq_eq_false_iff_ne.mpr (Nat.ne_of_gt inv2.big)
      exact ⟨.ref heap.objs.size, _, inv2.turnedNew kept' cells (Nat.le_refl _) new, rfl, hand _ (inv2.hok.fresh (Nat.le_refl _))⟩
end Tm

/-! webs that the class makes: complete and bipartite -/
namespace Tm
open PySem PySem.Spec PyProof.Rows L2
def zeros (n : Nat) : List (Int × Int) := (List.range n).map fun i => ((i : Nat), (0 : Int))
def spMUT (K : PySem.W.Frag) : Sp := fun vs H Q _ => ∃ (n : Nat) (od : Addr), vs = [.int n, .ref od] ∧ n ≤ 12 ∧ SqT K H od [] ∧ ∀ H' p, Same H H' → H p = none → H' p = some (.dK (marksK (zeros n))) → Q (.ref p) H'
def edgesOf (cs : List Nat) (pz : List (Addr × Int × Int)) : List Edg := (cs.zip pz).map fun q => ⟨q.1, q.2.1, q.2.2.1, q.2.2.2⟩
theorem lettered_edges (pz : List (Addr × Int × Int)) : ∀ cs : List Nat, lettered cs (pz.map fun a => V.ref a.1) = endsK (edgesOf cs pz) := by
  induction pz with
  | nil => intro cs; cases cs <;> rfl
  | cons a pz ih =>
    intro cs
    cases cs with
    | nil => rfl
    | cons c cs =>
      have := ih cs
      simp only [lettered, edgesOf, endsK, List.map_cons, List.zip_cons_cons] at this ⊢
      rw [this]
      rfl
def spNamed : Sp := fun vs H Q _ => ∃ (l : Addr) (pz : List (Addr × Int × Int)), vs = [.ref l] ∧ PairsZ H l pz ∧ pz.length < 24 ∧ ∀ p, H p = none → Q (.ref p) (upd H p (.dK (endsK (edgesOf alpha pz))))
theorem zeros_take {n i : Nat} (h : i < n) : marksK ((zeros n).take (i + 1)) = putK (marksK ((zeros n).take i)) (Sum.inl ((i : Nat) : Int)) (.int 0) := by
  have len : i < (zeros n).length := by unfold zeros; rw [List.length_map, List.length_range]; exact h
  have nd : ((zeros n).map (·.1)).Nodup := by
    unfold zeros
    rw [List.map_map]
    refine List.Pairwise.map _ ?_ (List.nodup_range (n := n))
    intro a b ne e
    exact ne (Int.ofNat.inj e)
  have e := marksK_take len nd
  rw [← e]
  simp [zeros]
end Tm

/-! what complete and bipartite build -/
namespace Tm
open PySem PySem.Spec PyProof.Rows L2
def rowP (lo : Nat → Nat) (hi i : Nat) : List (Int × Int) := (List.range (hi - lo i)).map fun j => (((i : Nat) : Int), ((lo i + j : Nat) : Int))
def rowsP (lo : Nat → Nat) (hi n : Nat) : List (Int × Int) := (List.range n).flatMap (rowP lo hi)
theorem rowP_length (lo : Nat → Nat) (hi i : Nat) : (rowP lo hi i).length = hi - lo i := by unfold rowP; rw [List.length_map, List.length_range]
theorem rowP_take {lo : Nat → Nat} {hi i j : Nat} (h : j < hi - lo i) : (rowP lo hi i).take (j + 1) = (rowP lo hi i).take j ++ [(((i : Nat) : Int), ((lo i + j : Nat) : Int))] := by
  rw [List.take_succ_eq_append_getElem (by rw [rowP_length]; exact h)]
  simp [rowP]
theorem rowsP_succ (lo : Nat → Nat) (hi i : Nat) : rowsP lo hi (i + 1) = rowsP lo hi i ++ rowP lo hi i := by
  unfold rowsP
  rw [List.range_succ, List.flatMap_append]
  simp
theorem pairsZ_add {L : Hp} {D T : Addr} {pz : List (Addr × Int × Int)} {a b : Int} (h : PairsZ L D pz) (nT : L T = none) :
    PairsZ (upd (upd L T (.tup [.int a, .int b])) D (.lst ((pz.map fun a => V.ref a.1) ++ [.ref T]))) D (pz ++ [(T, a, b)]) := by
  have hD : (upd L T (.tup [.int a, .int b])) D = some (.lst (pz.map fun a => V.ref a.1)) := by rw [upd_ne (ne_of_none h.1 nT)]; exact h.1
  have e : (pz.map fun a => V.ref a.1) ++ [.ref T] = (pz ++ [(T, a, b)]).map fun a => V.ref a.1 := by rw [List.map_append]; rfl
  rw [e]
  refine PairsZ.put hD ?_
  intro q hq
  rcases List.mem_append.mp hq with hq | hq
  · rw [upd_ne (ne_of_none (h.2 q hq) nT)]
    exact h.2 q hq
  · rw [List.mem_singleton.mp hq]
    exact upd_same
def triW (prs : List (Int × Int)) : List Tri := (alpha.zip prs).map fun q => (q.1, min q.2.1 q.2.2, max q.2.1 q.2.2)
def spBuilt (K : PySem.W.Frag) (C : Addr) (args : List V) (prs : List (Int × Int)) : Sp := fun vs H Q _ => ∃ od : Addr, vs = V.ref C :: (args ++ [.ref od]) ∧ SqT K H od [] ∧ ∀ H' x ms es, Same H H' → H x = none → WebAt C H' x ms es → (es.map tri).Perm (triW prs) → Q (.ref x) H'
theorem edgesOf_letters (pz : List (Addr × Int × Int)) : ∀ cs : List Nat, (edgesOf cs pz).map (·.letter) = cs.take pz.length := by
  induction pz with
  | nil => intro cs; cases cs <;> rfl
  | cons a pz ih =>
    intro cs
    cases cs with
    | nil => rfl
    | cons c cs =>
      have := ih cs
      simp only [edgesOf, List.map_cons, List.zip_cons_cons, List.length_cons, List.take_succ_cons] at this ⊢
      rw [this]
theorem edges_built {H : Hp} {l : Addr} {pz : List (Addr × Int × Int)} {n : Nat} (h : PairsZ H l pz) (few : pz.length < 24) (good : ∀ z ∈ pz.map (·.2), z.1 ≠ z.2 ∧ z.1 ∈ (zeros n).map (·.1) ∧ z.2 ∈ (zeros n).map (·.1)) :
    EdgesOk H (zeros n) (edgesOf alpha pz) := by
  have each : ∀ e ∈ edgesOf alpha pz, e.letter ∈ alpha ∧ (e.pair, e.lo, e.hi) ∈ pz := by
    intro e he
    obtain ⟨q, hq, rfl⟩ := List.mem_map.mp he
    exact List.of_mem_zip (show (q.1, q.2) ∈ alpha.zip pz from hq)
  refine ⟨?_, ?_, fun e he => (each e he).1, ?_⟩
  · rw [edgesOf_letters]
    exact alpha_nodup.sublist (List.take_sublist _ _)
  · unfold edgesOf
    rw [List.length_map, List.length_zip]
    omega
  · intro e he
    have m := (each e he).2
    exact ⟨h.2 _ m, good (e.lo, e.hi) (List.mem_map.mpr ⟨_, m, rfl⟩)⟩
theorem tri_built (pz : List (Addr × Int × Int)) : ((edgesOf alpha pz).map fun e => (e.letter, min e.lo e.hi, max e.lo e.hi)) = triW (pz.map (·.2)) := by
  have zips : ∀ cs : List Nat, cs.zip (pz.map (·.2)) = (cs.zip pz).map fun q => (q.1, q.2.2) := by
    intro cs
    rw [List.zip_map_right]
    rfl
  unfold edgesOf triW
  rw [zips, List.map_map, List.map_map]
  rfl
/-- cls(..): the class stands in a slot -/
def tMakeV (i : Nat) (C : Addr) (sp : Sp) (dvs : List V) (E : XK) (t : TA) : TE := fun σ H Q => σ[i]? = some (some (.ref C)) ∧ tMake C sp dvs E t σ H Q
theorem pe_makeV {X : Cx} {CX : CXT} {k i : Nat} {C f : Addr} {fd : FuncData} {ps : List Str} {sp : Sp} {dvs : List V} {ds : List Value} {E : XK} {x : Str} {p pos : Pos} {e : Expr} {es : List Expr} {t : TA}
    (slot : X.N[i]? = some x) (seen : Vis X.env.scope x) (M : Mk X.K C f) (init : FnOk X.prog X.w X.K X.mg X.base CX k f fd ps sp) (room : Room (k + 1) X.A) (binds : Binds X.K fd ps ds) (dfl : Vals dvs ds) (pass : Passes CX X E) (args : PA X (e :: es) t)
    (nd : (x == ("__debug__" : Str)) = false := by decide) (nc : (x == ("__classdict__" : Str)) = false := by decide)
    (first : starEach (e :: es) X.env = (false, eval e X.env) :: starEach es X.env := by rfl) (plain : (backTo pos (starEach es X.env)).any (·.1) = false := by rfl) : PE X (.Call (.Name x p) (e :: es) [] pos) (tMakeV i C sp dvs E t) where
  run pins s σ H Q inv ask := by
    have read := (pe_var (pos := p) slot seen nd nc).run pins s σ H (fun v H1 => v = .ref C ∧ H1 = H) inv ⟨_, ask.1, rfl, rfl⟩
    apply wpAny_Call_Name_kw
    apply wpAny_mono read _ (fun _ _ raised => raised)
    rintro u s1 ⟨v, H1, inv1, rel, rfl, rfl⟩
    cases rel
    apply PySem.W.callWith_K (h₀ := X.base) inv.ok.mod.kin M.kp _ first plain
    apply wpAny_mono (args.run pos pins s1 σ _ _ inv1 ask.2) _ (fun _ _ raised => raised)
    rintro us s2 ⟨vs, H2, inv2, rels, made⟩
    exact ⟨inv2.kIn, run_make M init room binds dfl pass inv2 rels made⟩
end Tm

namespace T06
open PySem PySem.Spec PyProof.Rows L2 Tm
abbrev sMut : Stmt := topS 20
theorem scMut : FnScope ["count", "odd", "node"] ["count", "odd"] (defScope sMut) := ⟨rfl, rfl, rfl, by decide +kernel, rfl, by decide +kernel, by decide +kernel⟩
abbrev sNamed : Stmt := topS 21
theorem scNamed : FnScope ["pairs"] ["pairs"] (defScope sNamed) := ⟨rfl, rfl, rfl, by decide +kernel, rfl, by decide +kernel, by decide +kernel⟩
section
variable {P : Program} {w : World} {K : PySem.W.Frag} {mg : Str → Option Value} {base : Heap}
theorem ok_mut {f : Addr} {fd : FuncData} (F : Fun K "marks_up_to" "marks_up_to" sMut f fd) (mr : mg "range" = none) : FnOk P w K mg base CX0 1 f fd ["count", "odd"] (spMUT K) := by
  refine F.ok scMut (fun vs H Q E h => ?_) (fun cdv A outer s H vs Q E hr h => ?_)
  · obtain ⟨n, od, rfl, _⟩ := h
    rfl
  · obtain ⟨n, od, rfl, few, sq, q⟩ := h
    refine ⟨_, pss_cons (ps_for PassesOwn.never rfl (pi_tup (pv 1)) (pg_name (i := 2) scMut.nd rfl (.inl rfl)) pss_never)
      (pss_one (ps_ret (pe_dc (own := [("node", 2)]) (g := gName 2) (tt := tYes) rfl scMut.nd (pi_range1 (by rfl) mr (pa_cons (pv 0) pa_nil)) (blkOk_by (own := [("node", 2)]) (N := ["count", "odd", "node"]) (sc := defScope sMut) (by decide +kernel)) (fun _ _ _ _ _ => pg_name (i := 2) scMut.nd rfl (Or.inl rfl)) (fun _ _ _ _ _ => pts_nil)
        (fun _ _ _ _ _ => pv 2) (fun _ _ _ _ _ => pe_ifExp (pt_cmpR (show OpR _ _ (rIn K false) from op_in_seq) (pv 2) (pv 1) (by rfl)) pe_int pe_int)))), ?_⟩
    refine ⟨_, rfl, od, rfl, ⟨_, sq⟩, for_tup (K := K) (a := od) (xs := []) (fun i σ H' => σ = [some (.int n), some (.ref od), none] ∧ H' = H) ⟨rfl, rfl⟩ (fun i σ H' _ h => by rw [h.2]; exact sq) (fun i x σ H' hx => by cases hx) ?_⟩
    rintro σ H' ⟨rfl, rfl⟩
    refine ⟨_, rfl, n, rfl, by omega, by omega, ?_⟩
    refine dc_walk (walk_range (lo := 0) (n := n)) (fun D i J => Same H' J ∧ J D = some (.dK (marksK ((zeros n).take i)))) (fun D fresh => ⟨same_upd fresh, upd_same⟩) (fun _ _ _ _ _ => trivial) ?_ ?_
    · rintro D i v J J' fresh hi ⟨sJ, hD⟩ ⟨rfl, rfl⟩
      have ei : (0 : Int) + (i : Nat) = (i : Nat) := Int.zero_add _
      refine ⟨rfl, ?_⟩
      refine ⟨_, rfl, _, rfl, _, rfl, od, [], rfl, .inr (SqT.ext sq sJ), rfl, rfl, _, rfl, iteF ?_⟩
      refine ⟨_, Sum.inl ((0 : Int) + (i : Nat)), rfl, hD, ?_, same_put sJ fresh, ?_⟩
      · unfold marksK zeros
        rw [List.length_map, List.length_take]
        exact small1000 (by omega)
      · rw [upd_same, ei, zeros_take hi]
    · rintro D J fresh ⟨sJ, hD⟩
      have len : (zeros n).length = n := by unfold zeros; rw [List.length_map, List.length_range]
      have whole : (zeros n).take n = zeros n := List.take_of_length_le (Nat.le_of_eq len)
      rw [whole] at hD
      exact q J D sJ fresh hD
theorem ok_named {f C : Addr} {mc : Value} {fd : FuncData} (F : Fun K "named" "named" sNamed f fd) (T : ChkT K mg C mc) (mz : mg "zip" = none) (md : mg "dict" = none) : FnOk P w K mg base CX0 1 f fd ["pairs"] spNamed := by
  refine F.ok scNamed (fun vs H Q E h => ?_) (fun cdv A outer s H vs Q E hr h => ?_)
  · obtain ⟨l, pz, rfl, _⟩ := h
    rfl
  · obtain ⟨l, pz, rfl, ⟨hl, _⟩, few, q⟩ := h
    obtain ⟨t, nm⟩ := T.names
    rw [txt_alpha] at nm
    refine ⟨_, pss_one (ps_ret (pe_dictzip rfl (by rfl) mz (by rfl) md (pa_cons (pe_glob (v := .str (txt alpha)) (by rfl) nm ⟨t, rfl⟩) (pa_cons (pv 0) pa_nil)))), ?_⟩
    refine ⟨_, rfl, alpha, l, _, rfl, SqL.of hl, by rw [List.length_map]; exact few, by decide, alpha_nodup, fun p np => ?_⟩
    rw [lettered_edges]
    exact q p np
end


end T06

namespace T06
open PySem PySem.Spec PyProof.Rows L2 Tm
open ClX
/-- what the module's names hold, as far as complete and bipartite ask -/
structure BuiltT (K : PySem.W.Frag) (mg : Str → Option Value) (C : Addr) (mc : Value) : Prop where
  edges : ∃ u, CVal K C mc "MAX_EDGES" (.int 24) u
  most : ∃ t, mg "MAX_COMPLETE" = some (.int 7 t)
  range : mg "range" = none
  zip : mg "zip" = none
  dict : mg "dict" = none
abbrev sComp : Stmt := inClass (topS 22) 8
theorem sccomp : FnScope ["cls", "count", "odd", "marks", "pairs", "one", "other"] ["cls", "count", "odd"] (defScope sComp) := ⟨rfl, rfl, rfl, by decide +kernel, rfl, by decide +kernel, by decide +kernel⟩
section
variable {P : Program} {w : World} {K : PySem.W.Frag} {mg : Str → Option Value} {base : Heap}
set_option maxHeartbeats 2000000 in
theorem ok_comp {f fI fM fN C : Addr} {mc : Value} {fd fdI fdM fdN : FuncData} (F : Fun K "complete" "Web.complete" sComp f fd) (M : Mk K C fI) (GI : FnOk P w K mg base CX0 3 fI fdI ["self", "marks", "edges"] (spWInit C)) (bI : Binds K fdI ["self", "marks", "edges"] [])
    (FM : Fun K "marks_up_to" "marks_up_to" sMut fM fdM) (bM : Binds K fdM ["count", "odd"] []) (gM : mg "marks_up_to" = some (.ref fM)) (FN : Fun K "named" "named" sNamed fN fdN) (bN : Binds K fdN ["pairs"] []) (gN : mg "named" = some (.ref fN))
    (T : ChkT K mg C mc) (B : BuiltT K mg C mc) : FnOk P w K mg base CX0 5 f fd ["cls", "count", "odd"] (spBuilt K C [.int 4] (rowsP (· + 1) 4 4)) := by
  have GM : FnOk P w K mg base CX0 1 fM fdM ["count", "odd"] (spMUT K) := ok_mut FM B.range
  have GN : FnOk P w K mg base CX0 1 fN fdN ["pairs"] spNamed := ok_named FN T B.zip B.dict
  refine F.ok sccomp (fun vs H Q E h => ?_) (fun cdv A outer s H vs Q E hr h => ?_)
  · obtain ⟨od, rfl, _⟩ := h
    rfl
  · obtain ⟨od, rfl, sq, hand⟩ := h
    obtain ⟨u1, cv1⟩ := T.nodes
    obtain ⟨u2, cv2⟩ := B.edges
    obtain ⟨tm, mx⟩ := B.most
    have hr1 : Room 1 _ := hr.mono (by decide)
    refine ⟨_, (pss_cons (ps_if (pt_cmpR op_gt (pv 1) (pe_glob (v := .int 7) (by rfl) mx ⟨tm, rfl⟩) (by rfl)) pss_never pss_nil)
      (pss_cons (ps_set (i := 3) sccomp.nd rfl (.inl rfl) (pe_call GM hr1 (by rfl) gM FM.kp bM .nil pass0 (pa_cons (pv 1) (pa_cons (pv 2) pa_nil))))
      (pss_cons (ps_setLc2 (i := 4) (own := [("one", 5), ("other", 6)]) (vs1 := [6]) (g := gName 5) (g1 := gName 6) (tt := tYes) (tt1 := tYes) rfl sccomp.nd rfl rfl (sw_true rfl rfl rfl rfl) (pi_range1 (by rfl) B.range (pa_cons (pv 1) pa_nil)) (blkOk_by (own := [("one", 5), ("other", 6)]) (N := ["cls", "count", "odd", "marks", "pairs", "one", "other"]) (sc := defScope sComp) (by decide +kernel)) (by decide)
        (fun _ _ _ _ _ => pg_name (i := 5) sccomp.nd rfl (Or.inl rfl)) (fun _ _ _ _ _ => pts_nil) (fun _ _ _ _ _ => (pi_range2 (by rfl) B.range (pa_cons (pe_op op_add (pv 5) pe_int) (pa_cons (pv 1) pa_nil)))) (fun _ _ _ _ _ => pg_name (i := 6) sccomp.nd rfl (Or.inl rfl)) (fun _ _ _ _ _ => pts_nil)
        (fun _ _ _ _ _ => pe_tup (pa_cons (pv 5) (pa_cons (pv 6) pa_nil))))
      (pss_one (ps_ret (pe_makeV (i := 0) rfl (.inl rfl) M GI hr bI .nil pass0 (pa_cons (pv 3) (pa_cons (pe_call GN hr1 (by rfl) gN FN.kp bN .nil pass0 (pa_cons (pv 4) pa_nil)) pa_nil)))))))), ?_⟩
    refine ⟨_, rfl, 4, 7, rfl, rfl, _, rfl, iteF ?_⟩
    refine ⟨_, rfl, _, rfl, 4, od, rfl, by decide, sq, fun H2 dm s2 nm hm => ?_⟩
    refine ⟨_, rfl, 4, rfl, by decide, by decide, fun D nD => ?_⟩
    have fD : H D = none := s2.free nD
    refine go_it (walk_range (lo := 0) (n := 4)) (fun i J => Same H2 J ∧ ∃ pz : List (Addr × Int × Int), PairsZ J D pz ∧ pz.map (·.2) = rowsP (· + 1) 4 i) ⟨same_upd nD, [], ⟨upd_same, fun a ha => by cases ha⟩, rfl⟩ (fun _ _ _ _ => trivial) ?_ ?_
    · rintro i v J J' hi ⟨sJ, pz, hz, ez⟩ ⟨rfl, rfl⟩
      refine ⟨rfl, ?_⟩
      refine ⟨_, rfl, _, _, rfl, rfl, _, rfl, _, _, rfl, ⟨by omega, by omega, by decide, by decide⟩, ?_⟩
      have begin_ : (0 : Int) + (i : Nat) = (i : Nat) := Int.zero_add _
      have many : ((4 : Int) - ((0 : Int) + (i : Nat) + 1)).toNat = 4 - (i + 1) := by omega
      rw [many]
      refine go_it (walk_range (lo := (0 : Int) + (i : Nat) + 1) (n := 4 - (· + 1) i)) (fun j L => Same H2 L ∧ ∃ pz : List (Addr × Int × Int), PairsZ L D pz ∧ pz.map (·.2) = rowsP (· + 1) 4 i ++ (rowP (· + 1) 4 i).take j) ⟨sJ, pz, hz, by rw [ez]; simp⟩ (fun _ _ _ _ => trivial) ?_ ?_
      · rintro j v L L' hj ⟨sL, pw, hw, ew⟩ ⟨rfl, rfl⟩
        refine ⟨rfl, ?_⟩
        refine ⟨_, rfl, _, rfl, by show 2 ≤ sizeLine; decide, fun T nT => ?_⟩
        have nTD : D ≠ T := ne_of_none hw.1 nT
        refine ⟨_, by rw [upd_ne nTD]; exact hw.1, ?_, ?_, pw ++ [(T, _, _)], pairsZ_add hw nT, ?_⟩
        · rw [List.length_map, ← List.length_map (f := (·.2)), ew, List.length_append]
          have b1 := rowP_length (· + 1) 4 i
          have b2 : (rowsP (· + 1) 4 i).length ≤ 24 := by
            have four : i = 0 ∨ i = 1 ∨ i = 2 ∨ i = 3 := by omega
            rcases four with rfl | rfl | rfl | rfl <;> decide
          rw [List.length_take]
          have b3 : (rowP (· + 1) 4 i).length ≤ 12 := by rw [b1]; show 4 - (i + 1) ≤ 12; omega
          exact small1000 (by omega)
        · exact same_put (sL.trans (same_upd nT)) nD
        · rw [List.map_append, ew, rowP_take (lo := (· + 1)) (hi := 4) (i := i) hj, List.append_assoc]
          first | (simp; done) | (simp; omega)
      · rintro L ⟨sL, pw, hw, ew⟩
        refine ⟨sL, pw, hw, ?_⟩
        have whole : (rowP (· + 1) 4 i).take (4 - (· + 1) i) = rowP (· + 1) 4 i := List.take_of_length_le (Nat.le_of_eq (rowP_length (· + 1) 4 i))
        rw [ew, whole, rowsP_succ]
    · rintro J ⟨sJ, pz, hz, ez⟩
      have few : pz.length < 24 := by
        rw [← List.length_map (f := (·.2)), ez]
        decide
      refine ⟨rfl, _, rfl, _, rfl, D, pz, rfl, hz, few, fun de nde => ?_⟩
      have s4 : Same J (upd J de (.dK (endsK (edgesOf alpha pz)))) := same_upd nde
      have he : (upd J de (.dK (endsK (edgesOf alpha pz)))) de = some (.dK (endsK (edgesOf alpha pz))) := upd_same
      generalize upd J de (.dK (endsK (edgesOf alpha pz))) = H4 at s4 he ⊢
      have s24 := sJ.trans s4
      have sA := s2.trans s24
      intro x dx nx ndx nex
      have s5 : Same H4 (upd (upd H4 dx (.own x)) x (.ins C dx [])) := fun b o e => by
        rw [upd_ne (ne_of_none e nx), upd_ne (ne_of_none e ndx)]
        exact e
      have fx : H x = none := sA.free nx
      refine ⟨x, dx, dm, de, zeros 4, edgesOf alpha pz, rfl, upd_same, s5 _ _ (s24 _ _ hm), s5 _ _ he, ?_, ?_, fun H' ms' es' kp web made => ⟨rfl, ?_⟩⟩
      · unfold MarksOk; decide
      · refine edges_built (hz.same (s4.trans s5)) few ?_
        rw [ez]
        decide
      · refine hand H' x ms' es' (fun b o e => kp b o (fun z => by rw [z, fx] at e; cases e) (s5 _ _ (sA _ _ e))) fx web ?_
        have m := made.2
        rw [tri_built, ez] at m
        exact m
end

abbrev sBip : Stmt := inClass (topS 22) 9
theorem scbip : FnScope ["cls", "first", "second", "odd", "marks", "pairs", "one", "other"] ["cls", "first", "second", "odd"] (defScope sBip) := ⟨rfl, rfl, rfl, by decide +kernel, rfl, by decide +kernel, by decide +kernel⟩
section
variable {P : Program} {w : World} {K : PySem.W.Frag} {mg : Str → Option Value} {base : Heap}
set_option maxHeartbeats 2000000 in
theorem ok_bip {f fI fM fN C : Addr} {mc : Value} {fd fdI fdM fdN : FuncData} (F : Fun K "bipartite" "Web.bipartite" sBip f fd) (M : Mk K C fI) (GI : FnOk P w K mg base CX0 3 fI fdI ["self", "marks", "edges"] (spWInit C)) (bI : Binds K fdI ["self", "marks", "edges"] [])
    (FM : Fun K "marks_up_to" "marks_up_to" sMut fM fdM) (bM : Binds K fdM ["count", "odd"] []) (gM : mg "marks_up_to" = some (.ref fM)) (FN : Fun K "named" "named" sNamed fN fdN) (bN : Binds K fdN ["pairs"] []) (gN : mg "named" = some (.ref fN))
    (T : ChkT K mg C mc) (B : BuiltT K mg C mc) : FnOk P w K mg base CX0 5 f fd ["cls", "first", "second", "odd"] (spBuilt K C [.int 1, .int 5] (rowsP (fun _ => 1) 6 1)) := by
  have GM : FnOk P w K mg base CX0 1 fM fdM ["count", "odd"] (spMUT K) := ok_mut FM B.range
  have GN : FnOk P w K mg base CX0 1 fN fdN ["pairs"] spNamed := ok_named FN T B.zip B.dict
  refine F.ok scbip (fun vs H Q E h => ?_) (fun cdv A outer s H vs Q E hr h => ?_)
  · obtain ⟨od, rfl, _⟩ := h
    rfl
  · obtain ⟨od, rfl, sq, hand⟩ := h
    obtain ⟨u1, cv1⟩ := T.nodes
    obtain ⟨u2, cv2⟩ := B.edges
    obtain ⟨tm, mx⟩ := B.most
    have hr1 : Room 1 _ := hr.mono (by decide)
    refine ⟨_, (pss_cons (ps_if (pt_cmpR op_gt (pe_op op_add (pv 1) (pv 2)) (pe_cval (pv 0)) (by rfl)) pss_never pss_nil)
      (pss_cons (ps_if (pt_cmpR op_gt (pe_op op_mul (pv 1) (pv 2)) (pe_cval (pv 0)) (by rfl)) pss_never pss_nil)
      (pss_cons (ps_set (i := 4) scbip.nd rfl (.inl rfl) (pe_call GM hr1 (by rfl) gM FM.kp bM .nil pass0 (pa_cons (pe_op op_add (pv 1) (pv 2)) (pa_cons (pv 3) pa_nil))))
      (pss_cons (ps_setLc2 (i := 5) (own := [("one", 6), ("other", 7)]) (vs1 := [7]) (g := gName 6) (g1 := gName 7) (tt := tYes) (tt1 := tYes) rfl scbip.nd rfl rfl (sw_true rfl rfl rfl rfl) (pi_range1 (by rfl) B.range (pa_cons (pv 1) pa_nil)) (blkOk_by (own := [("one", 6), ("other", 7)]) (N := ["cls", "first", "second", "odd", "marks", "pairs", "one", "other"]) (sc := defScope sBip) (by decide +kernel)) (by decide)
        (fun _ _ _ _ _ => pg_name (i := 6) scbip.nd rfl (Or.inl rfl)) (fun _ _ _ _ _ => pts_nil) (fun _ _ _ _ _ => (pi_range2 (by rfl) B.range (pa_cons (pv 1) (pa_cons (pe_op op_add (pv 1) (pv 2)) pa_nil)))) (fun _ _ _ _ _ => pg_name (i := 7) scbip.nd rfl (Or.inl rfl)) (fun _ _ _ _ _ => pts_nil)
        (fun _ _ _ _ _ => pe_tup (pa_cons (pv 6) (pa_cons (pv 7) pa_nil))))
      (pss_one (ps_ret (pe_makeV (i := 0) rfl (.inl rfl) M GI hr bI .nil pass0 (pa_cons (pv 4) (pa_cons (pe_call GN hr1 (by rfl) gN FN.kp bN .nil pass0 (pa_cons (pv 5) pa_nil)) pa_nil))))))))), ?_⟩
    refine ⟨_, rfl, _, rfl, _, _, rfl, rfl, _, rfl, C, mc, _, u1, rfl, T.read, cv1, 6, 12, rfl, rfl, _, rfl, iteF ?_⟩
    refine ⟨_, rfl, _, rfl, _, _, rfl, rfl, Or.inl ⟨by decide, by decide⟩, _, rfl, C, mc, _, u2, rfl, T.read, cv2, 5, 24, rfl, rfl, _, rfl, iteF ?_⟩
    refine ⟨_, rfl, _, rfl, _, _, rfl, rfl, _, rfl, 6, od, rfl, by decide, sq, fun H2 dm s2 nm hm => ?_⟩
    refine ⟨_, rfl, 1, rfl, by decide, by decide, fun D nD => ?_⟩
    have fD : H D = none := s2.free nD
    refine go_it (walk_range (lo := 0) (n := 1)) (fun i J => Same H2 J ∧ ∃ pz : List (Addr × Int × Int), PairsZ J D pz ∧ pz.map (·.2) = rowsP (fun _ => 1) 6 i) ⟨same_upd nD, [], ⟨upd_same, fun a ha => by cases ha⟩, rfl⟩ (fun _ _ _ _ => trivial) ?_ ?_
    · rintro i v J J' hi ⟨sJ, pz, hz, ez⟩ ⟨rfl, rfl⟩
      refine ⟨rfl, ?_⟩
      refine ⟨_, rfl, _, rfl, _, rfl, _, _, rfl, rfl, _, _, rfl, ⟨by decide, by decide, by decide, by decide⟩, ?_⟩
      have begin_ : (0 : Int) + (i : Nat) = (i : Nat) := Int.zero_add _
      have many : ((1 : Int) + 5 - 1).toNat = 6 - 1 := by decide
      rw [many]
      refine go_it (walk_range (lo := 1) (n := 6 - (fun _ => 1) i)) (fun j L => Same H2 L ∧ ∃ pz : List (Addr × Int × Int), PairsZ L D pz ∧ pz.map (·.2) = rowsP (fun _ => 1) 6 i ++ (rowP (fun _ => 1) 6 i).take j) ⟨sJ, pz, hz, by rw [ez]; simp⟩ (fun _ _ _ _ => trivial) ?_ ?_
      · rintro j v L L' hj ⟨sL, pw, hw, ew⟩ ⟨rfl, rfl⟩
        refine ⟨rfl, ?_⟩
        refine ⟨_, rfl, _, rfl, by show 2 ≤ sizeLine; decide, fun T nT => ?_⟩
        have nTD : D ≠ T := ne_of_none hw.1 nT
        refine ⟨_, by rw [upd_ne nTD]; exact hw.1, ?_, ?_, pw ++ [(T, _, _)], pairsZ_add hw nT, ?_⟩
        · rw [List.length_map, ← List.length_map (f := (·.2)), ew, List.length_append]
          have b1 := rowP_length (fun _ => 1) 6 i
          have b2 : (rowsP (fun _ => 1) 6 i).length ≤ 24 := by
            have none_ : i = 0 := by omega
            subst none_
            decide
          rw [List.length_take]
          have b3 : (rowP (fun _ => 1) 6 i).length ≤ 12 := by rw [b1]; show 6 - 1 ≤ 12; omega
          exact small1000 (by omega)
        · exact same_put (sL.trans (same_upd nT)) nD
        · rw [List.map_append, ew, rowP_take (lo := (fun _ => 1)) (hi := 6) (i := i) hj, List.append_assoc]
          first | (simp; done) | (simp; omega)
      · rintro L ⟨sL, pw, hw, ew⟩
        refine ⟨sL, pw, hw, ?_⟩
        have whole : (rowP (fun _ => 1) 6 i).take (6 - (fun _ => 1) i) = rowP (fun _ => 1) 6 i := List.take_of_length_le (Nat.le_of_eq (rowP_length (fun _ => 1) 6 i))
        rw [ew, whole, rowsP_succ]
    · rintro J ⟨sJ, pz, hz, ez⟩
      have few : pz.length < 24 := by
        rw [← List.length_map (f := (·.2)), ez]
        decide
      refine ⟨rfl, _, rfl, _, rfl, D, pz, rfl, hz, few, fun de nde => ?_⟩
      have s4 : Same J (upd J de (.dK (endsK (edgesOf alpha pz)))) := same_upd nde
      have he : (upd J de (.dK (endsK (edgesOf alpha pz)))) de = some (.dK (endsK (edgesOf alpha pz))) := upd_same
      generalize upd J de (.dK (endsK (edgesOf alpha pz))) = H4 at s4 he ⊢
      have s24 := sJ.trans s4
      have sA := s2.trans s24
      intro x dx nx ndx nex
      have s5 : Same H4 (upd (upd H4 dx (.own x)) x (.ins C dx [])) := fun b o e => by
        rw [upd_ne (ne_of_none e nx), upd_ne (ne_of_none e ndx)]
        exact e
      have fx : H x = none := sA.free nx
      refine ⟨x, dx, dm, de, zeros 6, edgesOf alpha pz, rfl, upd_same, s5 _ _ (s24 _ _ hm), s5 _ _ he, ?_, ?_, fun H' ms' es' kp web made => ⟨rfl, ?_⟩⟩
      · unfold MarksOk; decide
      · refine edges_built (hz.same (s4.trans s5)) few ?_
        rw [ez]
        decide
      · refine hand H' x ms' es' (fun b o e => kp b o (fun z => by rw [z, fx] at e; cases e) (s5 _ _ (sA _ _ e))) fx web ?_
        have m := made.2
        rw [tri_built, ez] at m
        exact m
end



end T06

namespace T06
open PySem PySem.Spec PyProof.Rows L2 Tm
open ClX
theorem rise_few : ∀ (l : List Nat) (lo hi : Nat), l.Pairwise (· < ·) → (∀ c ∈ l, lo ≤ c ∧ c < hi) → l.length ≤ hi - lo
  | [], _, _, _, _ => Nat.zero_le _
  | c :: r, lo, hi, pw, within => by
    obtain ⟨low, pw'⟩ := List.pairwise_cons.mp pw
    have here := within c List.mem_cons_self
    have rest := rise_few r (c + 1) hi pw' fun d hd => ⟨low d hd, (within d (List.mem_cons_of_mem _ hd)).2⟩
    rw [List.length_cons]
    omega
theorem few_edges {C : Addr} {H : Hp} {x : Addr} {ms : List (Int × Int)} {es : List Edg} (web : WebAt C H x ms es) : es.length ≤ 24 := by
  obtain ⟨_, _, _, _, _, _, _, _, ok⟩ := web
  have few := rise_few (es.map (·.letter)) 97 121 ok.risE fun c hc => by
    obtain ⟨e, he, rfl⟩ := List.mem_map.mp hc
    have inA := ok.name e he
    have bounds : ∀ c ∈ alpha, 97 ≤ c ∧ c < 121 := by decide
    exact bounds _ inA
  rw [List.length_map] at few
  omega
theorem same_tris {ts us : List Tri} (h1 : (ts.map (·.1)).Pairwise (· < ·)) (h2 : (us.map (·.1)).Pairwise (· < ·)) (p : ts.Perm us) : ts = us := by
  refine List.Perm.eq_of_pairwise (le := fun a b : Tri => a.1 < b.1) (fun a b _ _ x y => ?_) (List.pairwise_map.mp h1) (List.pairwise_map.mp h2) p
  exact absurd (Nat.lt_trans x y) (Nat.lt_irrefl _)
theorem web_rises {C : Addr} {H : Hp} {x : Addr} {ms : List (Int × Int)} {es : List Edg} (web : WebAt C H x ms es) : ((es.map tri).map (·.1)).Pairwise (· < ·) := by
  obtain ⟨_, _, _, _, _, _, _, _, ok⟩ := web
  rw [List.map_map]
  exact ok.risE
theorem eqv_tw {H : Hp} {p q : Addr} {ns : List (List Nat)} (hp : H p = some (.lst (ns.map tw))) (hq : H q = some (.lst (ns.map tw))) (few : ns.length ≤ 10000) : Eqv H 1 (.ref p) (.ref q) := by
  refine .lst hp hq rfl (by rw [List.length_map]; exact few) ?_
  intro i x y hx hy
  rw [hx] at hy
  cases hy
  rw [List.getElem?_map] at hx
  cases e : ns[i]? with
  | none => rw [e] at hx; cases hx
  | some z =>
    rw [e] at hx
    cases hx
    exact .str 0 (txt z)
/-- the promise of a class method whose keyword is left out -/
def spGiven (K : PySem.W.Frag) (C od : Addr) (args : List V) (prs : List (Int × Int)) : Sp := fun vs H Q E => spBuilt K C args prs (vs ++ [.ref od]) H Q E
abbrev sLaw : Stmt := topS 39
theorem scLaw : FnScope ["_law_script", "_law_bag_here", "_law_turn", "_law_raw_here", "_law_made", "_law_again", "_law_found"] ["_law_script"] (defScope sLaw) := ⟨rfl, rfl, rfl, by decide +kernel, rfl, by decide +kernel, by decide +kernel⟩
section
variable {P : Program} {w : World} {K : PySem.W.Frag} {mg : Str → Option Value} {base : Heap}
set_option maxHeartbeats 4000000 in
theorem ok_law {f fB fP fR fS fW fN fE fL C pB pC gBip gComp odB odC : Addr} {mc : Value} {fd fdB fdP fdR fdS fdW fdN fdE fdL : FuncData} (F : Fun K "law" "law" sLaw f fd)
    (GB : FnOk P w K mg base CX0 1 fB fdB ["_law_script"] (spBag K)) (FB : Fun K "_law_bag" "_law_bag" sBag fB fdB) (bB : Binds K fdB ["_law_script"] []) (gB : mg "_law_bag" = some (.ref fB))
    (GP : FnOk P w K mg base CX0 1 fP fdP ["_law_bag_here", "_law_many"] spPull) (FP : Fun K "_law_pull" "_law_pull" sPull fP fdP) (bP : Binds K fdP ["_law_bag_here", "_law_many"] []) (gP : mg "_law_pull" = some (.ref fP))
    (GR : FnOk P w K mg base CX0 3 fR fdR ["_law_bag_here", "_law_wide", "_law_many"] spRaw) (FR : Fun K "_law_raw" "_law_raw" sRaw fR fdR) (bR : Binds K fdR ["_law_bag_here", "_law_wide", "_law_many"] []) (gR : mg "_law_raw" = some (.ref fR))
    (GS : FnOk P w K mg base CX0 5 fS fdS ["_law_bag_here"] spHard) (FS : Fun K "_law_some" "_law_some" sSome fS fdS) (bS : Binds K fdS ["_law_bag_here"] []) (gS : mg "_law_some" = some (.ref fS))
    (GW : FnOk P w K mg base CX0 5 fW fdW ["_law_raw_here"] (spLWebG C)) (FW : Fun K "_law_web" "_law_web" sLWeb fW fdW) (bW : Binds K fdW ["_law_raw_here"] []) (gW : mg "_law_web" = some (.ref fW))
    (GN : FnOk P w K mg base CX0 3 fN fdN ["self"] (spNotes C)) (bN : Binds K fdN ["self"] []) (mN : Meth K C "notes" fN)
    (GE : FnOk P w K mg base CX0 2 fE fdE ["_law_found", "_law_due"] (spSame 1)) (FE : Fun K "_law_same" "_law_same" sSame fE fdE) (bE : Binds K fdE ["_law_found", "_law_due"] []) (gE : mg "_law_same" = some (.ref fE))
    (GL : FnOk P w K mg base CX0 2 fL fdL ["_law_raw_here"] spLPairs) (FL : Fun K "_law_pairs" "_law_pairs" sLPairs fL fdL) (bL : Binds K fdL ["_law_raw_here"] []) (gL : mg "_law_pairs" = some (.ref fL))
    (T : ChkT K mg C mc) (U : WebT K mg C) (cB : CMet K C mc "bipartite" pB gBip) (cC : CMet K C mc "complete" pC gComp)
    (RB : FnR P w K mg base CX0 5 gBip (spGiven K C odB [.int 1, .int 5] (rowsP (fun _ => 1) 6 1))) (RC : FnR P w K mg base CX0 5 gComp (spGiven K C odC [.int 4] (rowsP (· + 1) 4 4)))
    (qB : ∀ H, SqT K H odB []) (qC : ∀ H, SqT K H odC []) (mr : mg "range" = none) : FnOk P w K mg base CX0 6 f fd ["_law_script"] (spLaw K) := by
  refine F.ok scLaw (fun vs H Q E h => ?_) (fun cdv A outer s H vs Q E hr h => ?_)
  · obtain ⟨a, ns, rfl, _⟩ := h
    rfl
  · obtain ⟨a, ns, rfl, sa, few, hand⟩ := h
    have hr1 : Room 1 _ := hr.mono (by decide)
    have hr2 : Room 2 _ := hr.mono (by decide)
    have hr3 : Room 3 _ := hr.mono (by decide)
    refine ⟨_, pss_cons (ps_set (i := 1) scLaw.nd rfl (.inl rfl) (pe_call GB hr1 (by rfl) gB FB.kp bB .nil pass0 (pa_cons (pv 0) pa_nil)))
      (pss_cons (ps_for PassesOwn.never rfl (pi_range1 (by rfl) mr (pa_cons pe_int pa_nil)) (pg_name (i := 2) scLaw.nd rfl (.inl rfl))
        (pss_cons (ps_set (i := 3) scLaw.nd rfl (.inl rfl) (pe_ifExp (pt_cmpR op_eq (pe_call GP hr1 (by rfl) gP FP.kp bP .nil pass0 (pa_cons (pv 1) (pa_cons pe_int pa_nil))) pe_int (nomark _)) (pe_call GS hr (by rfl) gS FS.kp bS .nil pass0 (pa_cons (pv 1) pa_nil)) (pe_call GR hr3 (by rfl) gR FR.kp bR .nil pass0 (pa_cons (pv 1) (pa_cons pe_int (pa_cons pe_int pa_nil))))))
        (pss_cons (ps_set (i := 4) scLaw.nd rfl (.inl rfl) (pe_call GW hr (by rfl) gW FW.kp bW .nil pass0 (pa_cons (pv 3) pa_nil)))
        (pss_one (ps_for PassesOwn.never rfl (pi_range1 (by rfl) mr (pa_cons pe_int pa_nil)) (pg_name (i := 5) scLaw.nd rfl (.inl rfl))
          (pss_cons (ps_set (i := 6) scLaw.nd rfl (.inl rfl) (pe_meth0 (pv 4) U.cl mN GN hr3 bN .nil pass0))
          (pss_cons (ps_if (pt_not (pt_val (pe_call GE hr2 (by rfl) gE FE.kp bE .nil pass0 (pa_cons (pv 6) (pa_cons (pe_call GL hr2 (by rfl) gL FL.kp bL .nil pass0 (pa_cons (pv 3) pa_nil)) pa_nil))))) pss_never pss_nil)
          (pss_one (ps_expr (pe_bm PySem.F.plainAttrs_list PySem.F.slot_list_append PySem.F.type_list_append mt_append (pv 6) (pa_cons pe_str pa_nil)))))))))))
      (pss_one (ps_ret (pe_and (pe_cmpR (op_eqD hr.units) (pe_meth0 (pe_cmeth (pe_glob (v := .ref C) (by rfl) T.web rfl) T.read cB RB hr pass0 (pa_cons pe_int (pa_cons pe_int pa_nil))) U.cl mN GN hr3 bN .nil pass0) (pe_lst pa_nil) (nomark _))
        (pe_one (pe_cmpR op_eq (pe_callB call_len_seq (by rfl) T.len PySem.boot_len (pa_cons (pe_meth0 (pe_cmeth (pe_glob (v := .ref C) (by rfl) T.web rfl) T.read cC RC hr pass0 (pa_cons pe_int pa_nil)) U.cl mN GN hr3 bN .nil pass0) pa_nil)) pe_int (nomark _))))))), ?_⟩
    have no : ∀ {a1 a2 a3 : Addr}, (webF a1 a2 a3).lookup ("notes" : Str) = none := fun {a1 a2 a3} => webF_no a1 a2 a3 (by decide +kernel) (by decide +kernel) (by decide +kernel)
    refine ⟨_, rfl, a, ns, rfl, sa, fun Hb b l sb nb nl Bb => ?_⟩
    refine ⟨5, rfl, by decide, by decide, for_range (lo := 0) (n := 5) (fun i σ H' => ∃ y2 y3 y4 y5 y6 : Option V, σ = [some (.ref a), some (.ref b), y2, y3, y4, y5, y6] ∧ Bag H' b l) ⟨none, none, none, none, none, rfl, Bb⟩ ?_ ?_⟩
    · rintro i σ H1 hi ⟨y2, y3, y4, y5, y6, rfl, B1⟩
      refine ⟨_, rfl, b, l, 2, rfl, B1, by decide, by decide, fun H2 d k2 B2 d0 d1 => ⟨rfl, _, rfl, ?_⟩⟩
      cases hd : decide (V.int d = V.int 0)
      case' true => refine iteT ⟨_, rfl, b, l, rfl, B2, fun H3 t ms es k3 B3 raw => ?_⟩
      case' false =>
        refine iteF ⟨_, rfl, b, l, 8, 12, rfl, B2, by decide, by decide, by decide, by decide, fun H3 t ms es k3 B3 raw0 => ?_⟩
        have raw := raw0.gen
      all_goals
        refine ⟨_, rfl, t, ms, es, rfl, raw, fun H4 x ms' es' s4 web made => ?_⟩
        have perm : (es'.map tri).Perm (es.map tri) := by
          have e : (es.map fun e => (e.letter, min e.lo e.hi, max e.lo e.hi)) = es.map tri := by
            obtain ⟨dm, de, _, _, _, _, _, less⟩ := raw
            refine List.map_congr_left fun e he => ?_
            have := less e he
            show (e.letter, min e.lo e.hi, max e.lo e.hi) = (e.letter, e.lo, e.hi)
            rw [Int.min_eq_left (by omega), Int.max_eq_right (by omega)]
          rw [← e]
          exact made.2
        refine ⟨2, rfl, by decide, by decide, for_range (lo := 0) (n := 2) (fun j σ H' => ∃ z2 z5 z6 : Option V, σ = [some (.ref a), some (.ref b), z2, some (.ref t), some (.ref x), z5, z6] ∧ Same H4 H') ⟨_, _, _, rfl, Same.refl _⟩ ?_ ?_⟩
        · rintro j σ H5 hj ⟨z2, z5, z6, rfl, s5⟩
          have web5 := web.same s5
          obtain ⟨dx, a1, a2, a3, hx, _⟩ := id web5
          refine ⟨_, rfl, x, dx, _, rfl, hx, no, x, ms', es', rfl, web5, few_edges web5, fun H6 p s6 np hp => ?_⟩
          refine ⟨_, rfl, _, rfl, t, ms, es, rfl, raw.same (s4.trans (s5.trans s6)), fun H7 p2 ts s7 np2 pt rise hp2 => ?_⟩
          have same : es'.map tri = ts := same_tris (web_rises web) rise (perm.trans pt.symm)
          have notes : notesT (es'.map tri) = pairsT ts := by rw [same, notes_pairs ts rise]
          rw [notes] at hp
          have many : (pairsT ts).length ≤ 576 := by
            have b1 := pairs_len ts
            have b2 : ts.length ≤ 24 := by rw [← same, List.length_map]; exact few_edges web
            exact Nat.le_trans b1 (Nat.mul_le_mul b2 b2)
          refine ⟨_, _, rfl, eqv_tw (s7 _ _ hp) hp2 (by omega), fun H8 s8 => ⟨true, rfl, iteF ?_⟩⟩
          have h8 := s8 _ _ (s7 _ _ hp)
          refine ⟨_, rfl, .inl ⟨rfl, _, SqL.of h8⟩, p, _, _, rfl, rfl, h8, by rw [List.length_map]; exact small1000 (by omega), ?_⟩
          exact ⟨_, _, _, rfl, same_put (s5.trans (s6.trans (s7.trans s8))) (s5.free np)⟩
        · rintro σ H5 ⟨z2, z5, z6, rfl, s5⟩
          exact ⟨_, _, _, _, _, rfl, (B3.same s4).same s5⟩
    · rintro σ H1 ⟨y2, y3, y4, y5, y6, rfl, B1⟩
      refine ⟨rfl, odB, rfl, qB _, fun H2 x ms es s2 nx web perm => ?_⟩
      obtain ⟨dx, a1, a2, a3, hx, _⟩ := id web
      refine ⟨x, dx, _, rfl, hx, no, x, ms, es, rfl, web, few_edges web, fun H3 p s3 np hp => ?_⟩
      have e1 : es.map tri = triW (rowsP (fun _ => 1) 6 1) := same_tris (web_rises web) (by decide) perm
      have e2 : notesT (triW (rowsP (fun _ => 1) 6 1)) = [] := by decide
      rw [e1, e2] at hp
      refine ⟨Nat.zero_le _, fun q nq => ⟨_, _, .lst (SqL.of ((same_upd nq) _ _ hp)) .nil, .lst (SqL.of upd_same) .nil, by decide, by decide, true, rfl, iteT ?_⟩⟩
      refine ⟨rfl, odC, rfl, qC _, fun H4 y ms4 es4 s4 ny web4 perm4 => ?_⟩
      obtain ⟨dy, b1, b2, b3, hy, _⟩ := id web4
      refine ⟨y, dy, _, rfl, hy, no, y, ms4, es4, rfl, web4, few_edges web4, fun H5 p5 s5 np5 hp5 => ?_⟩
      have e4 : es4.map tri = triW (rowsP (· + 1) 4 4) := same_tris (web_rises web4) (by decide) perm4
      have e5 : (notesT (triW (rowsP (· + 1) 4 4))).length = 3 := by decide
      rw [e4] at hp5
      refine ⟨p5, _, rfl, .inl (SqL.of hp5), ?_⟩
      rw [List.length_map, e5]
      exact ⟨rfl, hand _⟩
end


end T06

namespace T06
open PySem PySem.Spec PyProof.Rows L2 Tm
open ClX
section
variable {K : PySem.W.Frag}
theorem kw_comp {f D od : Addr} {oc doc pm cd ct : Value} {o2 an : Option Addr} {sl : Array (Option Value)} (l : K.lookup f = some ⟨oc, o2, .func (PySem.W.fnOf "complete" "Web.complete" (defArgs sComp) (defBody sComp) (defScope sComp) .none (.ref D) doc pm an cd ct), sl⟩)
    (c : PySem.W.codeIn K cd "Web.complete" = true) (k : PySem.W.keepIn K (.ref f) = true) (n : PySem.W.nsIn K D "odd" = some (some (.ref od))) :
    ∃ ds, Vals [.ref od] ds ∧ Binds K (PySem.W.fnOf "complete" "Web.complete" (defArgs sComp) (defBody sComp) (defScope sComp) .none (.ref D) doc pm an cd ct) ["cls", "count", "odd"] ds := by
  have W : FunD K "complete" "Web.complete" (defArgs sComp) (defBody sComp) (defScope sComp) [] [("odd", .ref od)] f (PySem.W.fnOf "complete" "Web.complete" (defArgs sComp) (defBody sComp) (defScope sComp) .none (.ref D) doc pm an cd ct) :=
    ⟨⟨oc, o2, .none, .ref D, doc, pm, an, cd, ct, sl, rfl, l, c, .inl ⟨rfl, rfl⟩, .inr ⟨D, rfl, fun q hq => by rw [List.mem_singleton.mp hq]; exact ⟨_, n, rfl⟩⟩⟩, k⟩
  exact W.binds0 (ps := ["cls", "count", "odd"]) 2 (by simp) rfl fun D doc pm an cd ct us ks l1 l2 => match us, ks, l1, l2 with | [_, _], [_], _, _ => ⟨_, _, _, _, _, _, rfl, rfl, rfl⟩
theorem kw_bip {f D od : Addr} {oc doc pm cd ct : Value} {o2 an : Option Addr} {sl : Array (Option Value)} (l : K.lookup f = some ⟨oc, o2, .func (PySem.W.fnOf "bipartite" "Web.bipartite" (defArgs sBip) (defBody sBip) (defScope sBip) .none (.ref D) doc pm an cd ct), sl⟩)
    (c : PySem.W.codeIn K cd "Web.bipartite" = true) (k : PySem.W.keepIn K (.ref f) = true) (n : PySem.W.nsIn K D "odd" = some (some (.ref od))) :
    ∃ ds, Vals [.ref od] ds ∧ Binds K (PySem.W.fnOf "bipartite" "Web.bipartite" (defArgs sBip) (defBody sBip) (defScope sBip) .none (.ref D) doc pm an cd ct) ["cls", "first", "second", "odd"] ds := by
  have W : FunD K "bipartite" "Web.bipartite" (defArgs sBip) (defBody sBip) (defScope sBip) [] [("odd", .ref od)] f (PySem.W.fnOf "bipartite" "Web.bipartite" (defArgs sBip) (defBody sBip) (defScope sBip) .none (.ref D) doc pm an cd ct) :=
    ⟨⟨oc, o2, .none, .ref D, doc, pm, an, cd, ct, sl, rfl, l, c, .inl ⟨rfl, rfl⟩, .inr ⟨D, rfl, fun q hq => by rw [List.mem_singleton.mp hq]; exact ⟨_, n, rfl⟩⟩⟩, k⟩
  exact W.binds0 (ps := ["cls", "first", "second", "odd"]) 3 (by simp) rfl fun D doc pm an cd ct us ks l1 l2 => match us, ks, l1, l2 with | [_, _, _], [_], _, _ => ⟨_, _, _, _, _, _, rfl, rfl, rfl⟩
theorem sq_given {od : Addr} {dd : Option Addr} {n : Nat} {sl : Array (Option Value)} (h : K.lookup od = some ⟨.type "tuple", dd, .seq #[] n, sl⟩) (H : Hp) : SqT K H od [] :=
  .inr ⟨_, #[], n, h, rfl, rfl, by decide, .nil⟩
end


end T06

namespace T06
open PySem PySem.Spec PyProof.Rows L2 Tm
open ClX
theorem all_mk {l : PySem.W.OpenLaw} {w : World} {K : PySem.W.Frag} {h : Heap} {mg : Str → Option Value} {fa C fB fP fO fM fE fA fR fV fX fN fH fS fW fT fL fIn fIm fIa fJ fCm fCe fMu fNa flaw finit fchkd fedg ftou fnote fCc fCb DCc DCb oCc oCb pCc pCb : Addr} (X : K.In h) (G : h.Ns mainGlobals mg) (hfa : mg "law" = some (.ref fa))
    {odB odP odO odM odE odA odR odV odX odN odH odS odW odT odL odIn odIm odIa odJ odCm odCe odMu odNa odlaw odinit odchkd odedg odtou odnote odCc odCb anB anP anO anM anE anA anR anV anX anN anH anS anW anT anL anIn anIm anIa anJ anCm anCe anMu anNa anlaw aninit anchkd anedg antou annote anCc anCb tdCc tdCb : Option Addr} {slB slP slO slM slE slA slR slV slX slN slH slS slW slT slL slIn slIm slIa slJ slCm slCe slMu slNa sllaw slinit slchkd sledg sltou slnote slCc slCb tsCc tsCb : Array (Option Value)} {ocB ocP ocO ocM ocE ocA ocR ocV ocX ocN ocH ocS ocW ocT ocL ocIn ocIm ocIa ocJ ocCm ocCe ocMu ocNa oclaw ocinit occhkd ocedg octou ocnote ocCc ocCb kVB kVP kVO kVM kVE kVA kVR kVV kVX kVN kVH kVS kVW kVT kVL kVIn kVIm kVIa kVJ kVCm kVCe kVMu kVNa kVlaw kVinit kVchkd kVedg kVtou kVnote dcB dcP dcO dcM dcE dcA dcR dcV dcX dcN dcH dcS dcW dcT dcL dcIn dcIm dcIa dcJ dcCm dcCe dcMu dcNa dclaw dcinit dcchkd dcedg dctou dcnote dcCc dcCb pmB pmP pmO pmM pmE pmA pmR pmV pmX pmN pmH pmS pmW pmT pmL pmIn pmIm pmIa pmJ pmCm pmCe pmMu pmNa pmlaw pminit pmchkd pmedg pmtou pmnote pmCc pmCb cdB cdP cdO cdM cdE cdA cdR cdV cdX cdN cdH cdS cdW cdT cdL cdIn cdIm cdIa cdJ cdCm cdCe cdMu cdNa cdlaw cdinit cdchkd cdedg cdtou cdnote cdCc cdCb ctB ctP ctO ctM ctE ctA ctR ctV ctX ctN ctH ctS ctW ctT ctL ctIn ctIm ctIa ctJ ctCm ctCe ctMu ctNa ctlaw ctinit ctchkd ctedg cttou ctnote ctCc ctCb : Value} {rsCc rsCb : List Value} {tnCc tnCb : Nat} {tN tE tM tA : Tok}
    (aC : PySem.W.nsIn K mainGlobals "Web" = some (some (.ref C)))
    (aB : PySem.W.nsIn K mainGlobals "_law_bag" = some (some (.ref fB)))
    (lB : K.lookup fB = some ⟨ocB, odB, .func (PySem.W.fnOf "_law_bag" "_law_bag" (defArgs sBag) (defBody sBag) (defScope sBag) .none kVB dcB pmB anB cdB ctB), slB⟩)
    (cB : PySem.W.codeIn K cdB "_law_bag" = true)
    (kB : PySem.W.keepIn K (.ref fB) = true)
    (aP : PySem.W.nsIn K mainGlobals "_law_pull" = some (some (.ref fP)))
    (lP : K.lookup fP = some ⟨ocP, odP, .func (PySem.W.fnOf "_law_pull" "_law_pull" (defArgs sPull) (defBody sPull) (defScope sPull) .none kVP dcP pmP anP cdP ctP), slP⟩)
    (cP : PySem.W.codeIn K cdP "_law_pull" = true)
    (kP : PySem.W.keepIn K (.ref fP) = true)
    (aO : PySem.W.nsIn K mainGlobals "_law_of" = some (some (.ref fO)))
    (lO : K.lookup fO = some ⟨ocO, odO, .func (PySem.W.fnOf "_law_of" "_law_of" (defArgs sOf) (defBody sOf) (defScope sOf) .none kVO dcO pmO anO cdO ctO), slO⟩)
    (cO : PySem.W.codeIn K cdO "_law_of" = true)
    (kO : PySem.W.keepIn K (.ref fO) = true)
    (aM : PySem.W.nsIn K mainGlobals "_law_mixed" = some (some (.ref fM)))
    (lM : K.lookup fM = some ⟨ocM, odM, .func (PySem.W.fnOf "_law_mixed" "_law_mixed" (defArgs sMixed) (defBody sMixed) (defScope sMixed) .none kVM dcM pmM anM cdM ctM), slM⟩)
    (cM : PySem.W.codeIn K cdM "_law_mixed" = true)
    (kM : PySem.W.keepIn K (.ref fM) = true)
    (aE : PySem.W.nsIn K mainGlobals "_law_same" = some (some (.ref fE)))
    (lE : K.lookup fE = some ⟨ocE, odE, .func (PySem.W.fnOf "_law_same" "_law_same" (defArgs sSame) (defBody sSame) (defScope sSame) .none kVE dcE pmE anE cdE ctE), slE⟩)
    (cE : PySem.W.codeIn K cdE "_law_same" = true)
    (kE : PySem.W.keepIn K (.ref fE) = true)
    (aA : PySem.W.nsIn K mainGlobals "_law_letters" = some (some (.ref fA)))
    (lA : K.lookup fA = some ⟨ocA, odA, .func (PySem.W.fnOf "_law_letters" "_law_letters" (defArgs sLets) (defBody sLets) (defScope sLets) .none kVA dcA pmA anA cdA ctA), slA⟩)
    (cA : PySem.W.codeIn K cdA "_law_letters" = true)
    (kA : PySem.W.keepIn K (.ref fA) = true)
    (aR : PySem.W.nsIn K mainGlobals "_law_raw" = some (some (.ref fR)))
    (lR : K.lookup fR = some ⟨ocR, odR, .func (PySem.W.fnOf "_law_raw" "_law_raw" (defArgs sRaw) (defBody sRaw) (defScope sRaw) .none kVR dcR pmR anR cdR ctR), slR⟩)
    (cR : PySem.W.codeIn K cdR "_law_raw" = true)
    (kR : PySem.W.keepIn K (.ref fR) = true)
    (aV : PySem.W.nsIn K mainGlobals "_law_five" = some (some (.ref fV)))
    (lV : K.lookup fV = some ⟨ocV, odV, .func (PySem.W.fnOf "_law_five" "_law_five" (defArgs sFive) (defBody sFive) (defScope sFive) .none kVV dcV pmV anV cdV ctV), slV⟩)
    (cV : PySem.W.codeIn K cdV "_law_five" = true)
    (kV : PySem.W.keepIn K (.ref fV) = true)
    (aX : PySem.W.nsIn K mainGlobals "_law_six" = some (some (.ref fX)))
    (lX : K.lookup fX = some ⟨ocX, odX, .func (PySem.W.fnOf "_law_six" "_law_six" (defArgs sSix) (defBody sSix) (defScope sSix) .none kVX dcX pmX anX cdX ctX), slX⟩)
    (cX : PySem.W.codeIn K cdX "_law_six" = true)
    (kX : PySem.W.keepIn K (.ref fX) = true)
    (aN : PySem.W.nsIn K mainGlobals "_law_renamed" = some (some (.ref fN)))
    (lN : K.lookup fN = some ⟨ocN, odN, .func (PySem.W.fnOf "_law_renamed" "_law_renamed" (defArgs sRen) (defBody sRen) (defScope sRen) .none kVN dcN pmN anN cdN ctN), slN⟩)
    (cN : PySem.W.codeIn K cdN "_law_renamed" = true)
    (kN : PySem.W.keepIn K (.ref fN) = true)
    (aH : PySem.W.nsIn K mainGlobals "_law_hard" = some (some (.ref fH)))
    (lH : K.lookup fH = some ⟨ocH, odH, .func (PySem.W.fnOf "_law_hard" "_law_hard" (defArgs sHard) (defBody sHard) (defScope sHard) .none kVH dcH pmH anH cdH ctH), slH⟩)
    (cH : PySem.W.codeIn K cdH "_law_hard" = true)
    (kH : PySem.W.keepIn K (.ref fH) = true)
    (aS : PySem.W.nsIn K mainGlobals "_law_some" = some (some (.ref fS)))
    (lS : K.lookup fS = some ⟨ocS, odS, .func (PySem.W.fnOf "_law_some" "_law_some" (defArgs sSome) (defBody sSome) (defScope sSome) .none kVS dcS pmS anS cdS ctS), slS⟩)
    (cS : PySem.W.codeIn K cdS "_law_some" = true)
    (kS : PySem.W.keepIn K (.ref fS) = true)
    (aW : PySem.W.nsIn K mainGlobals "_law_web" = some (some (.ref fW)))
    (lW : K.lookup fW = some ⟨ocW, odW, .func (PySem.W.fnOf "_law_web" "_law_web" (defArgs sLWeb) (defBody sLWeb) (defScope sLWeb) .none kVW dcW pmW anW cdW ctW), slW⟩)
    (cW : PySem.W.codeIn K cdW "_law_web" = true)
    (kW : PySem.W.keepIn K (.ref fW) = true)
    (aT : PySem.W.nsIn K mainGlobals "_law_meets" = some (some (.ref fT)))
    (lT : K.lookup fT = some ⟨ocT, odT, .func (PySem.W.fnOf "_law_meets" "_law_meets" (defArgs sMeets) (defBody sMeets) (defScope sMeets) .none kVT dcT pmT anT cdT ctT), slT⟩)
    (cT : PySem.W.codeIn K cdT "_law_meets" = true)
    (kT : PySem.W.keepIn K (.ref fT) = true)
    (aL : PySem.W.nsIn K mainGlobals "_law_pairs" = some (some (.ref fL)))
    (lL : K.lookup fL = some ⟨ocL, odL, .func (PySem.W.fnOf "_law_pairs" "_law_pairs" (defArgs sLPairs) (defBody sLPairs) (defScope sLPairs) .none kVL dcL pmL anL cdL ctL), slL⟩)
    (cL : PySem.W.codeIn K cdL "_law_pairs" = true)
    (kL : PySem.W.keepIn K (.ref fL) = true)
    (aIn : PySem.W.nsIn K mainGlobals "is_node" = some (some (.ref fIn)))
    (lIn : K.lookup fIn = some ⟨ocIn, odIn, .func (PySem.W.fnOf "is_node" "is_node" (defArgs sIsNode) (defBody sIsNode) (defScope sIsNode) .none kVIn dcIn pmIn anIn cdIn ctIn), slIn⟩)
    (cIn : PySem.W.codeIn K cdIn "is_node" = true)
    (kIn : PySem.W.keepIn K (.ref fIn) = true)
    (aIm : PySem.W.nsIn K mainGlobals "is_mark" = some (some (.ref fIm)))
    (lIm : K.lookup fIm = some ⟨ocIm, odIm, .func (PySem.W.fnOf "is_mark" "is_mark" (defArgs sIsMark) (defBody sIsMark) (defScope sIsMark) .none kVIm dcIm pmIm anIm cdIm ctIm), slIm⟩)
    (cIm : PySem.W.codeIn K cdIm "is_mark" = true)
    (kIm : PySem.W.keepIn K (.ref fIm) = true)
    (aIa : PySem.W.nsIn K mainGlobals "is_name" = some (some (.ref fIa)))
    (lIa : K.lookup fIa = some ⟨ocIa, odIa, .func (PySem.W.fnOf "is_name" "is_name" (defArgs sIsName) (defBody sIsName) (defScope sIsName) .none kVIa dcIa pmIa anIa cdIa ctIa), slIa⟩)
    (cIa : PySem.W.codeIn K cdIa "is_name" = true)
    (kIa : PySem.W.keepIn K (.ref fIa) = true)
    (aJ : PySem.W.nsIn K mainGlobals "joins_two" = some (some (.ref fJ)))
    (lJ : K.lookup fJ = some ⟨ocJ, odJ, .func (PySem.W.fnOf "joins_two" "joins_two" (defArgs sJoins) (defBody sJoins) (defScope sJoins) .none kVJ dcJ pmJ anJ cdJ ctJ), slJ⟩)
    (cJ : PySem.W.codeIn K cdJ "joins_two" = true)
    (kJ : PySem.W.keepIn K (.ref fJ) = true)
    (aCm : PySem.W.nsIn K mainGlobals "check_marks" = some (some (.ref fCm)))
    (lCm : K.lookup fCm = some ⟨ocCm, odCm, .func (PySem.W.fnOf "check_marks" "check_marks" (defArgs sChkM) (defBody sChkM) (defScope sChkM) .none kVCm dcCm pmCm anCm cdCm ctCm), slCm⟩)
    (cCm : PySem.W.codeIn K cdCm "check_marks" = true)
    (kCm : PySem.W.keepIn K (.ref fCm) = true)
    (aCe : PySem.W.nsIn K mainGlobals "check_edges" = some (some (.ref fCe)))
    (lCe : K.lookup fCe = some ⟨ocCe, odCe, .func (PySem.W.fnOf "check_edges" "check_edges" (defArgs sChkE) (defBody sChkE) (defScope sChkE) .none kVCe dcCe pmCe anCe cdCe ctCe), slCe⟩)
    (cCe : PySem.W.codeIn K cdCe "check_edges" = true)
    (kCe : PySem.W.keepIn K (.ref fCe) = true)
    (aMu : PySem.W.nsIn K mainGlobals "marks_up_to" = some (some (.ref fMu)))
    (lMu : K.lookup fMu = some ⟨ocMu, odMu, .func (PySem.W.fnOf "marks_up_to" "marks_up_to" (defArgs sMut) (defBody sMut) (defScope sMut) .none kVMu dcMu pmMu anMu cdMu ctMu), slMu⟩)
    (cMu : PySem.W.codeIn K cdMu "marks_up_to" = true)
    (kMu : PySem.W.keepIn K (.ref fMu) = true)
    (aNa : PySem.W.nsIn K mainGlobals "named" = some (some (.ref fNa)))
    (lNa : K.lookup fNa = some ⟨ocNa, odNa, .func (PySem.W.fnOf "named" "named" (defArgs sNamed) (defBody sNamed) (defScope sNamed) .none kVNa dcNa pmNa anNa cdNa ctNa), slNa⟩)
    (cNa : PySem.W.codeIn K cdNa "named" = true)
    (kNa : PySem.W.keepIn K (.ref fNa) = true)
    (alaw : PySem.W.nsIn K mainGlobals "law" = some (some (.ref flaw)))
    (llaw : K.lookup flaw = some ⟨oclaw, odlaw, .func (PySem.W.fnOf "law" "law" (defArgs sLaw) (defBody sLaw) (defScope sLaw) .none kVlaw dclaw pmlaw anlaw cdlaw ctlaw), sllaw⟩)
    (claw : PySem.W.codeIn K cdlaw "law" = true)
    (klaw : PySem.W.keepIn K (.ref flaw) = true)
    (ainit : PySem.W.findIn K (.ref C) "__init__" = some (some (.ref finit)))
    (iinit : PySem.W.isFn K (.ref finit) = true)
    (linit : K.lookup finit = some ⟨ocinit, odinit, .func (PySem.W.fnOf "__init__" "Web.__init__" (defArgs sWInit) (defBody sWInit) (defScope sWInit) .none kVinit dcinit pminit aninit cdinit ctinit), slinit⟩)
    (cinit : PySem.W.codeIn K cdinit "Web.__init__" = true)
    (kinit : PySem.W.keepIn K (.ref finit) = true)
    (achkd : PySem.W.findIn K (.ref C) "check_edge" = some (some (.ref fchkd)))
    (ichkd : PySem.W.isFn K (.ref fchkd) = true)
    (lchkd : K.lookup fchkd = some ⟨occhkd, odchkd, .func (PySem.W.fnOf "check_edge" "Web.check_edge" (defArgs sChkD) (defBody sChkD) (defScope sChkD) .none kVchkd dcchkd pmchkd anchkd cdchkd ctchkd), slchkd⟩)
    (cchkd : PySem.W.codeIn K cdchkd "Web.check_edge" = true)
    (kchkd : PySem.W.keepIn K (.ref fchkd) = true)
    (aedg : PySem.W.findIn K (.ref C) "edges" = some (some (.ref fedg)))
    (iedg : PySem.W.isFn K (.ref fedg) = true)
    (ledg : K.lookup fedg = some ⟨ocedg, odedg, .func (PySem.W.fnOf "edges" "Web.edges" (defArgs sEdges) (defBody sEdges) (defScope sEdges) .none kVedg dcedg pmedg anedg cdedg ctedg), sledg⟩)
    (cedg : PySem.W.codeIn K cdedg "Web.edges" = true)
    (kedg : PySem.W.keepIn K (.ref fedg) = true)
    (atou : PySem.W.findIn K (.ref C) "touch" = some (some (.ref ftou)))
    (itou : PySem.W.isFn K (.ref ftou) = true)
    (ltou : K.lookup ftou = some ⟨octou, odtou, .func (PySem.W.fnOf "touch" "Web.touch" (defArgs sTouch) (defBody sTouch) (defScope sTouch) .none kVtou dctou pmtou antou cdtou cttou), sltou⟩)
    (ctou : PySem.W.codeIn K cdtou "Web.touch" = true)
    (ktou : PySem.W.keepIn K (.ref ftou) = true)
    (anote : PySem.W.findIn K (.ref C) "notes" = some (some (.ref fnote)))
    (inote : PySem.W.isFn K (.ref fnote) = true)
    (lnote : K.lookup fnote = some ⟨ocnote, odnote, .func (PySem.W.fnOf "notes" "Web.notes" (defArgs sNotes) (defBody sNotes) (defScope sNotes) .none kVnote dcnote pmnote annote cdnote ctnote), slnote⟩)
    (cnote : PySem.W.codeIn K cdnote "Web.notes" = true)
    (knote : PySem.W.keepIn K (.ref fnote) = true)
    (aCc : PySem.W.findCls K (.ref C) (.type "type") "complete" = some (.get (.builtin "classmethod.__get__") (.ref pCc) .none (.ref C)))
    (rCc : PySem.W.recIn K pCc "classmethod" = some (.ref fCc :: rsCc))
    (iCc : PySem.W.fnIn K fCc = true)
    (lCc : K.lookup fCc = some ⟨ocCc, odCc, .func (PySem.W.fnOf "complete" "Web.complete" (defArgs sComp) (defBody sComp) (defScope sComp) .none (.ref DCc) dcCc pmCc anCc cdCc ctCc), slCc⟩)
    (cCc : PySem.W.codeIn K cdCc "Web.complete" = true)
    (kCc : PySem.W.keepIn K (.ref fCc) = true)
    (nCc : PySem.W.nsIn K DCc "odd" = some (some (.ref oCc)))
    (qCc : K.lookup oCc = some ⟨.type "tuple", tdCc, .seq #[] tnCc, tsCc⟩)
    (aCb : PySem.W.findCls K (.ref C) (.type "type") "bipartite" = some (.get (.builtin "classmethod.__get__") (.ref pCb) .none (.ref C)))
    (rCb : PySem.W.recIn K pCb "classmethod" = some (.ref fCb :: rsCb))
    (iCb : PySem.W.fnIn K fCb = true)
    (lCb : K.lookup fCb = some ⟨ocCb, odCb, .func (PySem.W.fnOf "bipartite" "Web.bipartite" (defArgs sBip) (defBody sBip) (defScope sBip) .none (.ref DCb) dcCb pmCb anCb cdCb ctCb), slCb⟩)
    (cCb : PySem.W.codeIn K cdCb "Web.bipartite" = true)
    (kCb : PySem.W.keepIn K (.ref fCb) = true)
    (nCb : PySem.W.nsIn K DCb "odd" = some (some (.ref oCb)))
    (qCb : K.lookup oCb = some ⟨.type "tuple", tdCb, .seq #[] tnCb, tsCb⟩)
    (pg : PySem.W.plainGet K C Str.empty = true)
    (hd : PySem.W.hasDictIn K C = true)
    (po : PySem.W.plainOver K C = true)
    (sa : PySem.W.findIn K (.ref C) "__setattr__" = some (some (.builtin "object.__setattr__")))
    (mk : PySem.W.makesIn K C = true)
    (kc : PySem.W.keepIn K (.ref C) = true)
    (nM : PySem.W.findIn K (.ref C) "marks" = some none)
    (nP : PySem.W.findIn K (.ref C) "pairs" = some none)
    (nS : PySem.W.findIn K (.ref C) "stars" = some none)
    (rd : PySem.W.readsIn K C (.type "type") = true)
    (ga : PySem.W.specialIn K (.ref C) "__getattribute__" = some (some (.builtin "type.__getattribute__")))
    (vN : PySem.W.findCls K (.ref C) (.type "type") "MAX_NODES" = some (.val (.int 12 tN)))
    (vE : PySem.W.findCls K (.ref C) (.type "type") "MAX_EDGES" = some (.val (.int 24 tE)))
    (vM : PySem.W.nsIn K mainGlobals "MAX_COMPLETE" = some (some (.int 7 tM)))
    (vA : PySem.W.nsIn K mainGlobals "EDGE_NAMES" = some (some (.str (Str.ofString "abcdefghijklmnopqrstuvwx") tA)))
    (z_isinstance : PySem.W.nsIn K mainGlobals "isinstance" = some none)
    (z_dict : PySem.W.nsIn K mainGlobals "dict" = some none)
    (z_list : PySem.W.nsIn K mainGlobals "list" = some none)
    (z_tuple : PySem.W.nsIn K mainGlobals "tuple" = some none)
    (z_bool : PySem.W.nsIn K mainGlobals "bool" = some none)
    (z_int : PySem.W.nsIn K mainGlobals "int" = some none)
    (z_str : PySem.W.nsIn K mainGlobals "str" = some none)
    (z_len : PySem.W.nsIn K mainGlobals "len" = some none)
    (z_all : PySem.W.nsIn K mainGlobals "all" = some none)
    (z_zip : PySem.W.nsIn K mainGlobals "zip" = some none)
    (z_sorted : PySem.W.nsIn K mainGlobals "sorted" = some none)
    (z_range : PySem.W.nsIn K mainGlobals "range" = some none)
    (z_min : PySem.W.nsIn K mainGlobals "min" = some none)
    (z_max : PySem.W.nsIn K mainGlobals "max" = some none)
    (z_any : PySem.W.nsIn K mainGlobals "any" = some none)
    : ∃ fd : FuncData, (∀ (s : Shared) (v : Value), BindsTo s fd ⟨[v], []⟩ [("_law_script", v)]) ∧ ∀ base : Heap, K.In base → base.Ns mainGlobals mg → FnOk l.prog w K mg base CX0 6 fa fd ["_law_script"] (spLaw K) := by
  have e := hfa.symm.trans (PySem.W.mg_of X G alaw)
  cases e
  have FB := fun_mk (st := sBag) lB cB kB
  have bB := FB.binds (ps := ["_law_script"]) fun _ _ _ _ _ _ us hl => match us, hl with | [_], _ => rfl
  have FP := fun_mk (st := sPull) lP cP kP
  have bP := FP.binds (ps := ["_law_bag_here", "_law_many"]) fun _ _ _ _ _ _ us hl => match us, hl with | [_, _], _ => rfl
  have FO := fun_mk (st := sOf) lO cO kO
  have bO := FO.binds (ps := ["_law_bag_here", "_law_things"]) fun _ _ _ _ _ _ us hl => match us, hl with | [_, _], _ => rfl
  have FM := fun_mk (st := sMixed) lM cM kM
  have bM := FM.binds (ps := ["_law_bag_here", "_law_things"]) fun _ _ _ _ _ _ us hl => match us, hl with | [_, _], _ => rfl
  have FE := fun_mk (st := sSame) lE cE kE
  have bE := FE.binds (ps := ["_law_found", "_law_due"]) fun _ _ _ _ _ _ us hl => match us, hl with | [_, _], _ => rfl
  have FA := fun_mk (st := sLets) lA cA kA
  have bA := FA.binds (ps := []) fun _ _ _ _ _ _ us hl => match us, hl with | [], _ => rfl
  have FR := fun_mk (st := sRaw) lR cR kR
  have bR := FR.binds (ps := ["_law_bag_here", "_law_wide", "_law_many"]) fun _ _ _ _ _ _ us hl => match us, hl with | [_, _, _], _ => rfl
  have FV := fun_mk (st := sFive) lV cV kV
  have bV := FV.binds (ps := []) fun _ _ _ _ _ _ us hl => match us, hl with | [], _ => rfl
  have FX := fun_mk (st := sSix) lX cX kX
  have bX := FX.binds (ps := []) fun _ _ _ _ _ _ us hl => match us, hl with | [], _ => rfl
  have FN := fun_mk (st := sRen) lN cN kN
  have bN := FN.binds (ps := ["_law_bag_here", "_law_size", "_law_pairs_here"]) fun _ _ _ _ _ _ us hl => match us, hl with | [_, _, _], _ => rfl
  have FH := fun_mk (st := sHard) lH cH kH
  have bH := FH.binds (ps := ["_law_bag_here"]) fun _ _ _ _ _ _ us hl => match us, hl with | [_], _ => rfl
  have FS := fun_mk (st := sSome) lS cS kS
  have bS := FS.binds (ps := ["_law_bag_here"]) fun _ _ _ _ _ _ us hl => match us, hl with | [_], _ => rfl
  have FW := fun_mk (st := sLWeb) lW cW kW
  have bW := FW.binds (ps := ["_law_raw_here"]) fun _ _ _ _ _ _ us hl => match us, hl with | [_], _ => rfl
  have FT := fun_mk (st := sMeets) lT cT kT
  have bT := FT.binds (ps := ["_law_raw_here", "_law_first", "_law_last"]) fun _ _ _ _ _ _ us hl => match us, hl with | [_, _, _], _ => rfl
  have FL := fun_mk (st := sLPairs) lL cL kL
  have bL := FL.binds (ps := ["_law_raw_here"]) fun _ _ _ _ _ _ us hl => match us, hl with | [_], _ => rfl
  have FIn := fun_mk (st := sIsNode) lIn cIn kIn
  have bIn := FIn.binds (ps := ["number"]) fun _ _ _ _ _ _ us hl => match us, hl with | [_], _ => rfl
  have FIm := fun_mk (st := sIsMark) lIm cIm kIm
  have bIm := FIm.binds (ps := ["number"]) fun _ _ _ _ _ _ us hl => match us, hl with | [_], _ => rfl
  have FIa := fun_mk (st := sIsName) lIa cIa kIa
  have bIa := FIa.binds (ps := ["text"]) fun _ _ _ _ _ _ us hl => match us, hl with | [_], _ => rfl
  have FJ := fun_mk (st := sJoins) lJ cJ kJ
  have bJ := FJ.binds (ps := ["marks", "pair"]) fun _ _ _ _ _ _ us hl => match us, hl with | [_, _], _ => rfl
  have FCm := fun_mk (st := sChkM) lCm cCm kCm
  have bCm := FCm.binds (ps := ["marks"]) fun _ _ _ _ _ _ us hl => match us, hl with | [_], _ => rfl
  have FCe := fun_mk (st := sChkE) lCe cCe kCe
  have bCe := FCe.binds (ps := ["marks", "edges"]) fun _ _ _ _ _ _ us hl => match us, hl with | [_, _], _ => rfl
  have FMu := fun_mk (st := sMut) lMu cMu kMu
  have bMu := FMu.binds (ps := ["count", "odd"]) fun _ _ _ _ _ _ us hl => match us, hl with | [_, _], _ => rfl
  have FNa := fun_mk (st := sNamed) lNa cNa kNa
  have bNa := FNa.binds (ps := ["pairs"]) fun _ _ _ _ _ _ us hl => match us, hl with | [_], _ => rfl
  have Flaw := fun_mk (st := sLaw) llaw claw klaw
  have Finit := fun_mk (st := sWInit) linit cinit kinit
  have binit := Finit.binds (ps := ["self", "marks", "edges"]) fun _ _ _ _ _ _ us hl => match us, hl with | [_, _, _], _ => rfl
  have Fchkd := fun_mk (st := sChkD) lchkd cchkd kchkd
  have bchkd := Fchkd.binds (ps := ["self", "edge"]) fun _ _ _ _ _ _ us hl => match us, hl with | [_, _], _ => rfl
  have Fedg := fun_mk (st := sEdges) ledg cedg kedg
  have bedg := Fedg.binds (ps := ["self"]) fun _ _ _ _ _ _ us hl => match us, hl with | [_], _ => rfl
  have Ftou := fun_mk (st := sTouch) ltou ctou ktou
  have btou := Ftou.binds (ps := ["self", "one", "other"]) fun _ _ _ _ _ _ us hl => match us, hl with | [_, _, _], _ => rfl
  have Fnote := fun_mk (st := sNotes) lnote cnote knote
  have bnote := Fnote.binds (ps := ["self"]) fun _ _ _ _ _ _ us hl => match us, hl with | [_], _ => rfl
  have FCc := fun_mk (st := sComp) lCc cCc kCc
  have FCb := fun_mk (st := sBip) lCb cCb kCb
  have gB := PySem.W.mg_of X G aB
  have gP := PySem.W.mg_of X G aP
  have gO := PySem.W.mg_of X G aO
  have gM := PySem.W.mg_of X G aM
  have gE := PySem.W.mg_of X G aE
  have gA := PySem.W.mg_of X G aA
  have gR := PySem.W.mg_of X G aR
  have gV := PySem.W.mg_of X G aV
  have gX := PySem.W.mg_of X G aX
  have gN := PySem.W.mg_of X G aN
  have gH := PySem.W.mg_of X G aH
  have gS := PySem.W.mg_of X G aS
  have gW := PySem.W.mg_of X G aW
  have gT := PySem.W.mg_of X G aT
  have gL := PySem.W.mg_of X G aL
  have gIn := PySem.W.mg_of X G aIn
  have gIm := PySem.W.mg_of X G aIm
  have gIa := PySem.W.mg_of X G aIa
  have gJ := PySem.W.mg_of X G aJ
  have gCm := PySem.W.mg_of X G aCm
  have gCe := PySem.W.mg_of X G aCe
  have gMu := PySem.W.mg_of X G aMu
  have gNa := PySem.W.mg_of X G aNa
  have m_isinstance := PySem.W.mg_none_of X G z_isinstance
  have m_dict := PySem.W.mg_none_of X G z_dict
  have m_list := PySem.W.mg_none_of X G z_list
  have m_tuple := PySem.W.mg_none_of X G z_tuple
  have m_bool := PySem.W.mg_none_of X G z_bool
  have m_int := PySem.W.mg_none_of X G z_int
  have m_str := PySem.W.mg_none_of X G z_str
  have m_len := PySem.W.mg_none_of X G z_len
  have m_all := PySem.W.mg_none_of X G z_all
  have m_zip := PySem.W.mg_none_of X G z_zip
  have m_sorted := PySem.W.mg_none_of X G z_sorted
  have m_range := PySem.W.mg_none_of X G z_range
  have m_min := PySem.W.mg_none_of X G z_min
  have m_max := PySem.W.mg_none_of X G z_max
  have m_any := PySem.W.mg_none_of X G z_any
  have web := PySem.W.mg_of X G aC
  have T : ChkT K mg C (.type "type") := ⟨web, ⟨rd, ga⟩, ⟨_, ⟨vN, ⟨_, rfl⟩⟩⟩, ⟨_, PySem.W.mg_of X G vA⟩, m_sorted, m_len⟩
  have U : WebT K mg C := ⟨⟨pg, hd, po, sa⟩, nM, nP, nS, m_tuple⟩
  have BT : BuiltT K mg C (.type "type") := ⟨⟨_, ⟨vE, ⟨_, rfl⟩⟩⟩, ⟨_, PySem.W.mg_of X G vM⟩, m_range, m_zip, m_dict⟩
  have RT : RawT mg := ⟨m_sorted, m_list, m_range, m_dict, m_min, m_max, m_len⟩
  have ST : SameT mg := ⟨m_isinstance, m_dict, m_list, m_tuple, m_bool, m_int, m_str, m_len, m_all, m_zip⟩
  have M : Mk K C finit := ⟨mk, ainit, iinit, kc⟩
  obtain ⟨dsC, vC, bC⟩ := kw_comp lCc cCc kCc nCc
  obtain ⟨dsB, vB, bB2⟩ := kw_bip lCb cCb kCb nCb
  refine ⟨PySem.W.fnOf "law" "law" (defArgs sLaw) (defBody sLaw) (defScope sLaw) .none kVlaw dclaw pmlaw anlaw cdlaw ctlaw, fun s v => .of_eq rfl, fun base _ _ => ?_⟩
  have GP := ok_pull (P := l.prog) (w := w) (base := base) FP m_len
  have GO := ok_of (P := l.prog) (w := w) (base := base) FO FP bP gP m_len
  have GR := ok_raw (P := l.prog) (w := w) (base := base) FR FP bP gP FM bM gM FA bA gA RT
  have GRen := ok_ren (P := l.prog) (w := w) (base := base) FN FP bP gP FM bM gM FA bA gA RT
  have GH := ok_hard (P := l.prog) (w := w) (base := base) FH GP FP bP gP GO FO bO gO (ok_five FV) FV bV gV (ok_six FX) FX bX gX GRen FN bN gN RT
  have GS := ok_some (P := l.prog) (w := w) (base := base) FS GP FP bP gP GH FH bH gH GR FR bR gR
  have GI := ok_winit (P := l.prog) (w := w) (base := base) Finit (ok_chkm FCm FIn bIn gIn FIm bIm gIm T) FCm bCm gCm (ok_chke FCe FIa bIa gIa FJ bJ gJ T) FCe bCe gCe T U
  have GW := ok_lwebg (P := l.prog) (w := w) (base := base) FW M GI binit web m_dict
  have GN := ok_notes (P := l.prog) (w := w) (base := base) Fnote Fedg bedg ⟨aedg, iedg, kedg⟩ Fchkd bchkd ⟨achkd, ichkd, kchkd⟩ Ftou btou ⟨atou, itou, ktou⟩ U m_list
  have GE := ok_same (P := l.prog) (w := w) (base := base) FE ST gE bE 1
  have GL := ok_lpairs (P := l.prog) (w := w) (base := base) FL FT bT gT m_any m_sorted m_range m_len
  have GC := ok_comp (P := l.prog) (w := w) (base := base) FCc M GI binit FMu bMu gMu FNa bNa gNa T BT
  have GBi := ok_bip (P := l.prog) (w := w) (base := base) FCb M GI binit FMu bMu gMu FNa bNa gNa T BT
  exact ok_law Flaw (ok_bag FB m_list) FB bB gB GP FP bP gP GR FR bR gR GS FS bS gS GW FW bW gW GN bnote ⟨anote, inote, knote⟩ GE FE bE gE GL FL bL gL T U ⟨aCb, ⟨_, rCb⟩, iCb⟩ ⟨aCc, ⟨_, rCc⟩, iCc⟩
    (GBi.raw bB2 vB) (GC.raw bC vC) (fun H => sq_given qCb H) (fun H => sq_given qCc H) m_range


end T06


open PySem PySem.W PyProof.Rows in
set_option maxRecDepth 100000 in
set_option maxHeartbeats 0 in
theorem PySem.Challenge.cw_threadmark_k06_notes_of_webs_holds : PySem.Challenge.rw_threadmark_k06_notes_of_webs.Holds := by
  w_on; o_law; k_head; (case hw => w_witness2)
  k_fill
  refine L2.walk_of (l := PySem.Challenge.rw_threadmark_k06_notes_of_webs) (n := 63) (k := 6) (x := "_law_script") (CX := fun _ => L2.CX0) (sp := fun w => Tm.spLaw _) rfl (by decide) rfl ⟨rfl, by decide, by decide⟩ (fun w h Y => PySem.W.kIn_of Y) ?F (fun _ _ a ns hl _ hS => ⟨a, ns, rfl, hS, hl, fun _ => rfl⟩) (fun _ _ _ _ _ h => h)
  case F =>
    intro w mg fa h KX G hmg
    refine' T06.all_mk KX G hmg ?aC ?aB ?lB ?cB ?kB ?aP ?lP ?cP ?kP ?aO ?lO ?cO ?kO ?aM ?lM ?cM ?kM ?aE ?lE ?cE ?kE ?aA ?lA ?cA ?kA ?aR ?lR ?cR ?kR ?aV ?lV ?cV ?kV ?aX ?lX ?cX ?kX ?aN ?lN ?cN ?kN ?aH ?lH ?cH ?kH ?aS ?lS ?cS ?kS ?aW ?lW ?cW ?kW ?aT ?lT ?cT ?kT ?aL ?lL ?cL ?kL ?aIn ?lIn ?cIn ?kIn ?aIm ?lIm ?cIm ?kIm ?aIa ?lIa ?cIa ?kIa ?aJ ?lJ ?cJ ?kJ ?aCm ?lCm ?cCm ?kCm ?aCe ?lCe ?cCe ?kCe ?aMu ?lMu ?cMu ?kMu ?aNa ?lNa ?cNa ?kNa ?alaw ?llaw ?claw ?klaw ?ainit ?iinit ?linit ?cinit ?kinit ?achkd ?ichkd ?lchkd ?cchkd ?kchkd ?aedg ?iedg ?ledg ?cedg ?kedg ?atou ?itou ?ltou ?ctou ?ktou ?anote ?inote ?lnote ?cnote ?knote ?aCc ?rCc ?iCc ?lCc ?cCc ?kCc ?nCc ?qCc ?aCb ?rCb ?iCb ?lCb ?cCb ?kCb ?nCb ?qCb ?pg ?hd ?po ?sa ?mk ?kc ?nM ?nP ?nS ?rd ?ga ?vN ?vE ?vM ?vA ?z_isinstance ?z_dict ?z_list ?z_tuple ?z_bool ?z_int ?z_str ?z_len ?z_all ?z_zip ?z_sorted ?z_range ?z_min ?z_max ?z_any
    (case aC => k_is)
    (case aB => k_is)
    (case lB => k_is)
    (case cB => k_is)
    (case kB => k_is)
    (case aP => k_is)
    (case lP => k_is)
    (case cP => k_is)
    (case kP => k_is)
    (case aO => k_is)
    (case lO => k_is)
    (case cO => k_is)
    (case kO => k_is)
    (case aM => k_is)
    (case lM => k_is)
    (case cM => k_is)
    (case kM => k_is)
    (case aE => k_is)
    (case lE => k_is)
    (case cE => k_is)
    (case kE => k_is)
    (case aA => k_is)
    (case lA => k_is)
    (case cA => k_is)
    (case kA => k_is)
    (case aR => k_is)
    (case lR => k_is)
    (case cR => k_is)
    (case kR => k_is)
    (case aV => k_is)
    (case lV => k_is)
    (case cV => k_is)
    (case kV => k_is)
    (case aX => k_is)
    (case lX => k_is)
    (case cX => k_is)
    (case kX => k_is)
    (case aN => k_is)
    (case lN => k_is)
    (case cN => k_is)
    (case kN => k_is)
    (case aH => k_is)
    (case lH => k_is)
    (case cH => k_is)
    (case kH => k_is)
    (case aS => k_is)
    (case lS => k_is)
    (case cS => k_is)
    (case kS => k_is)
    (case aW => k_is)
    (case lW => k_is)
    (case cW => k_is)
    (case kW => k_is)
    (case aT => k_is)
    (case lT => k_is)
    (case cT => k_is)
    (case kT => k_is)
    (case aL => k_is)
    (case lL => k_is)
    (case cL => k_is)
    (case kL => k_is)
    (case aIn => k_is)
    (case lIn => k_is)
    (case cIn => k_is)
    (case kIn => k_is)
    (case aIm => k_is)
    (case lIm => k_is)
    (case cIm => k_is)
    (case kIm => k_is)
    (case aIa => k_is)
    (case lIa => k_is)
    (case cIa => k_is)
    (case kIa => k_is)
    (case aJ => k_is)
    (case lJ => k_is)
    (case cJ => k_is)
    (case kJ => k_is)
    (case aCm => k_is)
    (case lCm => k_is)
    (case cCm => k_is)
    (case kCm => k_is)
    (case aCe => k_is)
    (case lCe => k_is)
    (case cCe => k_is)
    (case kCe => k_is)
    (case aMu => k_is)
    (case lMu => k_is)
    (case cMu => k_is)
    (case kMu => k_is)
    (case aNa => k_is)
    (case lNa => k_is)
    (case cNa => k_is)
    (case kNa => k_is)
    (case alaw => k_is)
    (case llaw => k_is)
    (case claw => k_is)
    (case klaw => k_is)
    (case ainit => k_is)
    (case iinit => k_is)
    (case linit => k_is)
    (case cinit => k_is)
    (case kinit => k_is)
    (case achkd => k_is)
    (case ichkd => k_is)
    (case lchkd => k_is)
    (case cchkd => k_is)
    (case kchkd => k_is)
    (case aedg => k_is)
    (case iedg => k_is)
    (case ledg => k_is)
    (case cedg => k_is)
    (case kedg => k_is)
    (case atou => k_is)
    (case itou => k_is)
    (case ltou => k_is)
    (case ctou => k_is)
    (case ktou => k_is)
    (case anote => k_is)
    (case inote => k_is)
    (case lnote => k_is)
    (case cnote => k_is)
    (case knote => k_is)
    (case aCc => k_is)
    (case rCc => k_is)
    (case iCc => k_is)
    (case lCc => k_is)
    (case cCc => k_is)
    (case kCc => k_is)
    (case nCc => k_is)
    (case qCc => k_is)
    (case aCb => k_is)
    (case rCb => k_is)
    (case iCb => k_is)
    (case lCb => k_is)
    (case cCb => k_is)
    (case kCb => k_is)
    (case nCb => k_is)
    (case qCb => k_is)
    (case pg => k_is)
    (case hd => k_is)
    (case po => k_is)
    (case sa => k_is)
    (case mk => k_is)
    (case kc => k_is)
    (case nM => k_is)
    (case nP => k_is)
    (case nS => k_is)
    (case rd => k_is)
    (case ga => k_is)
    (case vN => k_is)
    (case vE => k_is)
    (case vM => k_is)
    (case vA => k_is)
    (case z_isinstance => k_is)
    (case z_dict => k_is)
    (case z_list => k_is)
    (case z_tuple => k_is)
    (case z_bool => k_is)
    (case z_int => k_is)
    (case z_str => k_is)
    (case z_len => k_is)
    (case z_all => k_is)
    (case z_zip => k_is)
    (case z_sorted => k_is)
    (case z_range => k_is)
    (case z_min => k_is)
    (case z_max => k_is)
    (case z_any => k_is)

