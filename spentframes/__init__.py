"""Keep a copy of a rising state over links that repeat, reorder and lose frames."""
