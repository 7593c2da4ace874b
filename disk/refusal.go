package disk

import (
	"strconv"

	"blobs/api"
)

// Refusal is why the disk refuses a step.
type Refusal api.Errno

func (r Refusal) Error() string { return "refused with " + strconv.Itoa(int(r)) }

// StepError is a refusal on its way up, with the name of the step that met it.
type StepError struct {
	Step string
	Err  error
}

func (s *StepError) Error() string { return s.Step + ": " + s.Err.Error() }

func (s *StepError) Unwrap() error { return s.Err }
