"""The shapes at a prime of tables of whole numbers and of their products."""
