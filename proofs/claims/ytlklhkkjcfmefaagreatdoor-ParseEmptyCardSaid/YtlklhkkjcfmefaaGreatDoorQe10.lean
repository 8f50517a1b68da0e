/- Ground of the law: PaFn. -/
import Derived.Test.YtlklhkkjcfmefaaGreatDoorQe08
set_option maxRecDepth 100000
set_option maxHeartbeats 8000000
set_option linter.unusedVariables false
set_option linter.unusedSimpArgs false
namespace Go.Proofs.YtlklhkkjcfmefaaGreatDoor.pa
open Go.RowKit nd pr
theorem bind_run {α β : Type} {p : Pa α} {f : α → Pa β} {r : List Tk} {o : Out β} (h : (p.bind f).run r = some o) :
  ∃ o1,p.run r = some o1 ∧ (match o1 with | .ok r x=>(f x).run r | .bad r=>some (.bad r)) = some o:=by
 rw [Pa.run_bind] at h
 cases hp : p.run r with
 | none=>rw [hp] at h;cases h
 | some o1=>rw [hp] at h;exact ⟨o1,rfl,by cases o1 <;> exact h⟩
theorem bind_ok {α β : Type} {p : Pa α} {f : α → Pa β} {r r' : List Tk} {x : α} (h : p.run r = some (.ok r' x)) : (p.bind f).run r = (f x).run r':=by rw [Pa.run_bind,h]
theorem bind_bad {α β : Type} {p : Pa α} {f : α → Pa β} {r r' : List Tk} (h : p.run r = some (.bad r')) : (p.bind f).run r = some (.bad r'):=by rw [Pa.run_bind,h]
theorem ended_bind {α β : Type} (k : Bool → Pa α) (f : α → Pa β) : (Pa.ended k).bind f = .ended fun z=>(k z).bind f:=rfl
theorem bind_assoc {α β γ : Type} (p : Pa α) (f : α → Pa β) (g : β → Pa γ) : (p.bind f).bind g = p.bind fun x=>(f x).bind g:=by
 induction p with
 | ret x=>rfl
 | bad=>rfl
 | out=>rfl
 | look k ih=>exact congrArg Pa.look (funext ih)
 | peek k ih=>exact congrArg Pa.peek (funext ih)
 | ended k ih=>exact congrArg Pa.ended (funext ih)
 | move k ih=>exact congrArg Pa.move ih
theorem bind_ret {α : Type} (p : Pa α) : (p.bind .ret) = p:=by
 induction p with
 | ret x=>rfl
 | bad=>rfl
 | out=>rfl
 | look k ih=>exact congrArg Pa.look (funext ih)
 | peek k ih=>exact congrArg Pa.peek (funext ih)
 | ended k ih=>exact congrArg Pa.ended (funext ih)
 | move k ih=>exact congrArg Pa.move ih
def mustP (s : ByteArray) : Pa Unit:=need s (.ret ())
def ofP (kd : Int) : Pa ByteArray:=.look fun t=>if t.1 == kd then .move (.ret t.2) else .bad
def cutP (kd : Int) : Pa ByteArray:=.look fun t=>if t.1 == kd then .move (.ret (cut t.2)) else .bad
def nameP : Pa ByteArray:=.look fun t=>if plainT t then .move (.ret t.2) else .bad
theorem need_bind {α : Type} (s : ByteArray) (k : Pa α) : need s k = (mustP s).bind fun _=>k:=by
 refine congrArg Pa.look (funext fun t=>?_)
 rw [ite_bind];rfl
theorem one_bind {α : Type} (kd : Int) (k : Pa α) : one kd k = (ofP kd).bind fun _=>k:=by
 refine congrArg Pa.look (funext fun t=>?_)
 rw [ite_bind];rfl
theorem text_bind {α : Type} (kd : Int) (k : ByteArray → Pa α) : text kd k = (cutP kd).bind k:=by
 refine congrArg Pa.look (funext fun t=>?_)
 rw [ite_bind];rfl
theorem name_bind {α : Type} (k : ByteArray → Pa α) : name k = nameP.bind k:=by
 refine congrArg Pa.look (funext fun t=>?_)
 rw [ite_bind];rfl
def listP {α : Type} (q : Pa α) (sep : Tk → Bool) : Nat → Pa (List α)
 | 0=>.out
 | n + 1=>q.bind fun x=>.look fun t=>if sep t then .move ((listP q sep n).bind fun l=>.ret (x :: l)) else .ret [x]
theorem listP_le {α : Type} {p q : Pa α} (h : p.Le q) (sep : Tk → Bool) : ∀ n,(listP p sep n).Le (listP q sep n)
 | 0=>trivial
 | n + 1=>Pa.Le.bind (fun x=>look_le fun t=>if_le (move_le (Pa.Le.bind (fun l=>ret_le _) _ _ (listP_le h sep n))) (ret_le _)) _ _ h
theorem listP_next {α : Type} {q : Pa α} (sep : Tk → Bool) : ∀ n,(listP q sep n).Le (listP q sep (n + 1))
 | 0=>trivial
 | n + 1=>Pa.Le.bind (fun x=>look_le fun t=>if_le (move_le (Pa.Le.bind (fun l=>ret_le _) _ _ (listP_next sep n))) (ret_le _)) _ _ (Pa.Le.refl _)
end Go.Proofs.YtlklhkkjcfmefaaGreatDoor.pa
