package giveup

import (
	"testing"

	"silt/api"
)

func TestCatchTellsTheAnswer(t *testing.T) {
	s, e := Catch(func() string {
		Unless(true)
		return "read"
	})
	if s != "read" || e != api.OK {
		t.Errorf("Catch = %q, %d, want read, OK", s, e)
	}
}

func TestCatchOfGivingUp(t *testing.T) {
	var deep func(n int)
	deep = func(n int) {
		Unless(n > 0)
		deep(n - 1)
	}
	s, e := Catch(func() string {
		deep(50)
		return "read"
	})
	if s != "" || e != api.ErrForm {
		t.Errorf("Catch = %q, %d, want nothing, ErrForm", s, e)
	}
}

// A list that was half read is no answer either.
func TestCatchTellsNothingHalfRead(t *testing.T) {
	list, e := Catch(func() []int {
		list := []int{1, 2}
		Unless(false)
		return list
	})
	if list != nil || e != api.ErrForm {
		t.Errorf("Catch = %v, %d, want nil, ErrForm", list, e)
	}
}

func TestCatchLetsOtherPanicsPass(t *testing.T) {
	var list []int
	for name, fault := range map[string]func() string{
		"a text":        func() string { panic("other") },
		"an empty type": func() string { panic(struct{}{}) },
		"an error":      func() string { panic(api.ErrForm) },
		"an index":      func() string { return string(rune(list[len(list)])) },
	} {
		if cause := causeOf(fault); cause == nil {
			t.Errorf("%s: the panic was taken for giving up", name)
		}
	}
}

func causeOf(fault func() string) (cause any) {
	defer func() { cause = recover() }()
	Catch(fault)
	return nil
}
