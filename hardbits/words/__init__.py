"""Words of bits: draws of them, designs, and the bits of a truth."""
